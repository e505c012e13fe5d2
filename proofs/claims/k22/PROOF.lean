import PyProof.Rows.All
import Wide.All
import OpenK.AllK
import Wide.FinOn
import HandS.ForMost
import HandS.Wide
import HandS.Conv
import HandS.Zip
import HandS.Walk
import HandS.DictComp
import HandS.Small
import HandS.SortInts
import HandS.Style
import HandS.IsInst
import HandS.TupAny
import HandS.TupLe
import HandS.AnyAll
import HandS.ListItems
import HandS.Deep
import HandS.EndOwn
import HandS.TryOnly
import HandS.Star
import HandS.FStr
import KE.KNestM
import HandS.GenList
import PyProof.TupleOfGen
import HandS.TupMul
import KE.GoesNew
import KE.GoesMore
import KE.GoesEnum
import KE.KDictZip
import HandS.Set
import HandS.SetFor
import HandS.Strs
import HandS.List
import KE.SortData
import HandS.OwnEq
import KE.KCallOwn
import KE.KFmtOwn
import PyProof.InstNe
import PyProof.EqKinds
import PySem.Challenge.RW_fairposts_k22_gadgets_or_not
set_option Elab.async false
set_option maxRecDepth 100000
namespace Gx
open PySem PySem.Spec PyProof.Rows L2
theorem over_start {A : Around} {elt : Expr} {gs : List Comprehension} {scope : Scope} {pos : Pos} {it acc : Value} {env : Env} :
    A.over (.compStart (.GeneratorExp elt gs scope pos) 0 it acc env) [] = A.deeper env := by
  obtain ⟨hd, d, fr, g, u⟩ := A
  simp [Around.over, Around.deeper, marksOver, frameCount, unitsOf, envsOf, guardsOf, pushEnvs, pushGuards, Code.envs, Code.env?, Code.isFrame, Code.guards, Code.isGuard, Code.weight, Code.frames, Code.isCreation, Code.isCaller, Code.cUnits]
theorem over_loop0 {A : Around} {elt : Expr} {gs : List Comprehension} {scope : Scope} {pos : Pos} {it acc : Value} {env : Env} :
    A.over (.compLoop (.GeneratorExp elt gs scope pos) 0 it acc env) [] = A.deeper env := by
  obtain ⟨hd, d, fr, g, u⟩ := A
  simp [Around.over, Around.deeper, marksOver, frameCount, unitsOf, envsOf, guardsOf, pushEnvs, pushGuards, Code.envs, Code.env?, Code.isFrame, Code.guards, Code.isGuard, Code.weight, Code.frames, Code.isCreation, Code.isCaller, Code.cUnits]
/-- the context of a generator expression's own frame, made at s -/
abbrev gx (X : Cx) (A : Around) (s : Shared) (H : Hp) (cenv : Env) (fp : List Addr) (pn : List (Addr × Obj)) : Cx :=
  { X with A := A.deeper cenv, s_0 := s, H_0 := H, env := cenv, outer := X.stack, stack := cenv :: X.stack, ex := fp, fn := fun x => cenv.scope.names.lookup x == some .cell, pn := pn, xe := fun _ _ => False }
abbrev gxEnv (X : Cx) (scope : Scope) (s : Shared) (code : Value) : Env := genEnv scope (cellsFrom (s.heap.objs.size + 1) scope.names (cloFrom X.env.cells scope.names [])) s.heap.objs.size code builtinsNs X.env
section
variable {X : Cx} {pins : List (Addr × Obj)} {σ : L2.St} {H : Hp} {s : Shared}
/-- the frame of a generator expression, its cells behind it -/
theorem newEnv_gen {M : Model} {A : Around} {E : Value → Shared → Prop} {scope : Scope} {globals : Addr} {closure : List (Str × Addr)} {it : Value} {qual : Str} {code : Value} {builtins : Addr} {Q : Env → Shared → Prop}
    (h0 : scope.names.lookup (".0" : Str) = some NameKind.local) (hk : scope.kind = .function)
    (hQ : ∀ h', h'.Ns s.heap.objs.size (fun y => if y = ".0" then some it else none) → Heap.SameBut s.heap.objs.size (pushCells (s.heap.push { cls := .type "frame", data := .dict #[] }) scope.names) h' →
      Q (newEnv scope s.heap.objs.size globals (cellsFrom (s.heap.objs.size + 1) scope.names closure) qual none code none builtins) { s with heap := h', toks := s.toks + 1 }) :
    wpAny M A (newFunctionEnv scope globals closure [(".0", it)] qual none code none builtins) Q E s := by
  simp only [newFunctionEnv, Option.isSome_none, Bool.false_eq_true, if_false]
  refine wpAny_bind (wpAny_alloc ?_)
  refine wpAny_bind (wpAny_layCells _ (fun name kind cells => by cases hkc : kind == NameKind.cell <;> simp [hkc]) _ _ _ _ ?_)
  rw [show ({ s with heap := s.heap.push { cls := .type "frame", data := .dict #[] } } : Shared).heap.objs.size = s.heap.objs.size + 1 from Heap.size_push ..]
  rw [List.forIn_cons]
  have ns : (pushCells (s.heap.push { cls := .type "frame", data := .dict #[] }) scope.names).Ns s.heap.objs.size (fun _ => none) := (Heap.Ns.new s.heap (.type "frame")).keeps (pushCells_keeps _ _)
  refine wpAny_bind (wpAny_bind (wpAny_bind (wpAny_storeName_local (show scope.names.lookup (".0" : Str) = some NameKind.local from h0) ns (fun h' hn' hs' => wpAny_pure ?_) (by show (scope.kind == .class || (scope.kind == .module && _)) = false; rw [hk]; rfl))))
  dsimp only
  rw [List.forIn_nil]
  exact wpAny_pure (wpAny_pure (hQ h' hn' hs'))
theorem make_gen {M : Model} {A : Around} {E : Value → Shared → Prop} {env : Env} {elt target iter : Expr} {ifs : List Expr} {scope : Scope} {cl : List (Str × Addr)} {pos : Pos} {Q : Value → Shared → Prop}
    (hco : scope.isCoroutine = false) (hclos : closureFor scope env = pure cl) (h0 : scope.names.lookup (".0" : Str) = some NameKind.local) (hkind : scope.kind = .function)
    (hroom : A.depth < recursionLimit)
    (h : wpAny M A (eval iter env) (fun xv s₁ => wpAny M A (pyIter xv) (fun it s₂ => s₂.heap.NoLimit ∧
      wpAny M A (genexprCode env pos (env.qual ++ "<genexpr>") scope) (fun code s₃ => wpAny M A (builtinsFor env.globals env.builtins) (fun bi s₄ =>
        ∀ h', h'.Ns s₄.heap.objs.size (fun y => if y = ".0" then some it else none) → Heap.SameBut s₄.heap.objs.size (pushCells (s₄.heap.push { cls := .type "frame", data := .dict #[] }) scope.names) h' →
          Q (.ref h'.objs.size) { s₄ with
            gens := s₄.gens.push (.fresh (.compStart (.GeneratorExp elt [⟨target, iter, ifs, 0⟩] scope pos) 0 it .none (genEnv scope (cellsFrom (s₄.heap.objs.size + 1) scope.names cl) s₄.heap.objs.size code bi env))),
            toks := s₄.toks + 1 + 1 + 1,
            heap := h'.push { cls := .type "generator", data := .fields #[.int s₄.gens.size 0, .str "<genexpr>" (s₄.toks + 1), .str (env.qual ++ "<genexpr>") (s₄.toks + 1 + 1)] } }) E s₃) E s₂) E s₁) E s)
    (hs : ∀ x, genFold iter env x = pure x) :
    wpAny M A (eval (.GeneratorExp elt [⟨target, iter, ifs, 0⟩] scope pos) env) Q E s := by
  rw [eval_GeneratorExp1 _ _ _ _ _ _ _ hco, hclos]
  refine wpAny_bind (wpAny_mono h (fun xv s₁ h₁ => ?_) fun _ _ e => e)
  refine wpAny_bind (wpAny_standAt ?_)
  refine wpAny_bind (wpAny_of_eq (hs xv) ?_)
  refine wpAny_bind (wpAny_holding (wpAny_mono h₁ (fun it s₂ h₂ => ?_) fun _ _ e => e))
  refine wpAny_bind (wpAny_enterFrame h₂.1 hroom ?_)
  refine wpAny_bind (wpAny_pure ?_)
  refine wpAny_bind (wpAny_mono h₂.2 (fun code s₃ h₃ => ?_) fun _ _ e => e)
  refine wpAny_bind (wpAny_mono h₃ (fun bi s₄ h₄ => ?_) fun _ _ e => e)
  refine wpAny_bind (newEnv_gen h0 hkind fun h' hn' hs' => ?_)
  simp only [newGenerator, newFields]
  refine wpAny_bind (wpAny_newGen (wpAny_bind (wpAny_mkText (wpAny_bind (wpAny_mkText (wpAny_newObj_type ?_ (by size_fits)))))))
  exact h₄ h' hn' hs'
theorem gx_inv {scope : Scope} {own : List (Str × Nat)} {fp : List Addr} {A : Around} {code : Value} {s5 : Shared} {pn pins5 : List (Addr × Obj)} (I : L2.Inv X pins σ H s) (ok : BlkOk X.N X.env.scope scope own) (hN : X.N.Nodup)
    (hfp : ∀ b ∈ fp, FpOk X pins H b ∧ b < s.heap.objs.size) (hA : A.handled = none) (hfr : A.frames = some X.stack)
    (kpc : ∀ b o, b ≠ s.heap.objs.size → (pushCells (s.heap.push { cls := .type "frame", data := .dict #[] }) scope.names).get? b = some o → s5.heap.get? b = some o) (hn : ∃ m, s5.heap.Ns s.heap.objs.size m) (hos : s5.os = s.os) (hb : AllBare s5.gens)
    (hpin : ∀ p ∈ pn ++ pins5, s5.heap.get? p.1 = some p.2 ∧ H p.1 = none ∧ p.1 ≠ s.heap.objs.size ∧ p.1 ∉ frs X.stack ∧ ∀ v, p.2.data ≠ .cell v) :
    L2.Inv (gx X A s H (gxEnv X scope s code) fp pn) pins5 (wipe σ (own.map (·.2))) H s5 := by
  have kp : ∀ b o, s.heap.get? b = some o → s5.heap.get? b = some o := fun b o e => kpc b o (Nat.ne_of_lt (Heap.lt_size e)) (pushCells_keeps _ _ _ _ (Heap.get?_push_of_some _ e))
  have hfree : ∀ y ∈ scope.names, y.2 = .free → ∃ c, X.env.cells.lookup y.1 = some c := by
    intro y hy e
    exact (ok.free y hy e).elim (fun k => I.ok.has _ (.inl k)) (fun k => I.ok.has _ (.inr k))
  have cm : ∀ {y c}, (y, c) ∈ cloFrom X.env.cells scope.names [] → X.env.cells.lookup y = some c ∧ c < s.heap.objs.size := by
    intro y c hm
    rcases cloFrom_mem hm with z | ⟨h1, rfl⟩
    · cases z
    · obtain ⟨c, hc⟩ := hfree _ h1 rfl
      rw [hc]
      obtain ⟨_, z⟩ := I.cell _ _ hc
      exact ⟨rfl, z.lt⟩
  have hcl : (gxEnv X scope s code).cells = cellsFrom (s.heap.push { cls := .type "frame", data := .dict #[] }).objs.size scope.names (cloFrom X.env.cells scope.names []) := by rw [Heap.size_push]; rfl
  have mem : ∀ {y c}, (gxEnv X scope s code).cells.lookup y = some c → (X.env.cells.lookup y = some c ∧ c < s.heap.objs.size) ∨ (s.heap.objs.size + 1 ≤ c ∧ CellAt (pushCells (s.heap.push { cls := .type "frame", data := .dict #[] }) scope.names) c none) := fun {y c} e => by
    rw [hcl] at e
    rcases cells_mem (PySem.mem_of_lookup e) with hm | ⟨_, h2, h3⟩
    · exact .inl (cm hm)
    · rw [Heap.size_push] at h2
      exact .inr ⟨h2, h3⟩
  have look : ∀ {y}, scope.names.lookup y = some .free → ∃ c, (gxEnv X scope s code).cells.lookup y = some c ∧ X.env.cells.lookup y = some c := fun {y} hl => by
    have hy : (y, NameKind.free) ∈ scope.names := PySem.mem_of_lookup hl
    obtain ⟨c', e'⟩ := mem_lookup (cells_acc (names := scope.names) (n := (s.heap.push { cls := .type "frame", data := .dict #[] }).objs.size) (cloFrom_has (cells := X.env.cells) (acc := []) hy))
    rw [← hcl] at e'
    refine ⟨c', e', ?_⟩
    rw [hcl] at e'
    rcases cells_mem (PySem.mem_of_lookup e') with hm | ⟨h1, _, _⟩
    · exact (cm hm).1
    · have := ok.uniq _ h1
      rw [hl] at this
      cases this
  have okG : (gx X A s H (gxEnv X scope s code) fp pn).Ok := by
    refine ⟨I.ok.mod, ok.kind, I.ok.glob, rfl, Nat.le_refl _, fun y z c e1 e2 => ?_, fun y hy => ?_, fun y c z e => ?_, fun _ => hA, Around.frames_deeper hfr, .inr ⟨rfl, rfl⟩,
      fun b hb => ⟨Nat.ne_of_lt (hfp b hb).2, fun y c e z => ?_⟩, I.bs, Nat.le_trans I.ok.bsz I.sz, fun b o e hb => ?_, fun b hb z => ?_, I.stack, I.stkFree⟩
    · have e1 : (gxEnv X scope s code).cells.lookup y = some c := e1
      have e2 : (gxEnv X scope s code).cells.lookup z = some c := e2
      rw [hcl] at e1 e2
      refine cells_inj (fun p hp => ?_) (fun y z c a b => I.ok.inj y z c (cm a).1 (cm b).1) (PySem.mem_of_lookup e1) (PySem.mem_of_lookup e2)
      rw [Heap.size_push]
      exact Nat.lt_succ_of_lt (cm (y := p.1) (c := p.2) hp).2
    · show ∃ c, (gxEnv X scope s code).cells.lookup y = some c
      rcases hy with hy | hy
      · obtain ⟨c, hm⟩ := cells_has (n := (s.heap.push { cls := .type "frame", data := .dict #[] }).objs.size) (acc := cloFrom X.env.cells scope.names []) (PySem.mem_of_lookup (show scope.names.lookup y = some .cell from hy))
        obtain ⟨c', e'⟩ := mem_lookup hm
        exact ⟨c', by rw [hcl]; exact e'⟩
      · obtain ⟨c, e, _⟩ := look (show scope.names.lookup y = some .free from hy)
        exact ⟨c, e⟩
    · have z : (scope.names.lookup y == some NameKind.cell) = true := z
      have z : scope.names.lookup y = some .cell := by simpa using z
      have e : (gxEnv X scope s code).cells.lookup y = some c := e
      rw [hcl] at e
      rcases cells_mem (PySem.mem_of_lookup e) with hm | ⟨_, h2, _⟩
      · rcases cloFrom_mem hm with hm | ⟨h1, _⟩
        · cases hm
        · have q := ok.uniq _ h1
          rw [z] at q
          cases q
      · rw [Heap.size_push] at h2
        exact Nat.le_of_succ_le h2
    · rcases mem e with ⟨h1, _⟩ | ⟨h1, _⟩
      · exact (hfp b hb).1.2.2.2.2.1 y c h1 z
      · have h2 : s.heap.objs.size + 1 ≤ b := by rw [← z]; exact h1
        exact absurd (Nat.lt_of_lt_of_le (hfp b hb).2 (Nat.le_of_succ_le h2)) (Nat.lt_irrefl _)
    · rcases (hfp b hb).1.2.2.2.1 with z | z
      · exact I.ok.noex b o e z
      · exact absurd (Nat.lt_of_lt_of_le (Heap.lt_size e) (Nat.le_trans I.ok.bsz z)) (Nat.lt_irrefl _)
    · rcases List.mem_cons.mp (I.stkSub b z) with z | z
      · exact (hfp b hb).1.2.1 z
      · exact (hfp b hb).1.2.2.1 z
  obtain ⟨m5, hm5⟩ := hn
  refine ⟨okG, hos, hb, Un.kept kp, ⟨m5, hm5, fun i y av e1 e2 e3 => ?_⟩, fun y c e => ?_, I.hok.fresh (Nat.le_refl _), fun y c e => ?_, hpin, I.hok.kept kp, by rw [wipe_length]; exact I.len⟩
  · obtain ⟨e2, hne⟩ := wipe_some e2
    have fr : scope.names.lookup y = some .free := by
      have no : ∀ k, scope.names.lookup y = some k → k = .local ∨ k = .cell → False := by
        intro k e hh
        rcases ok.own _ (PySem.mem_of_lookup e) hh with e' | e'
        · obtain ⟨p, hp, hpy⟩ := List.mem_map.mp e'
          have e4 := ok.ix p hp
          have e5 : p.1 = y := hpy
          rw [e5] at e4
          exact hne (List.mem_map.mpr ⟨p, hp, nodup_ix hN e4 e1⟩)
        · exact e' (List.mem_of_getElem? e1)
      rcases (show Vis scope y from e3) with z | z | z
      · exact (no _ z (.inl rfl)).elim
      · exact (no _ z (.inr rfl)).elim
      · exact z
    obtain ⟨m, _, hl⟩ := I.loc
    have hvis : Vis X.env.scope y := (ok.free _ (PySem.mem_of_lookup fr) rfl).elim (fun k => .inr (.inl k)) (fun k => .inr (.inr k))
    obtain ⟨u, r, q⟩ := hl i y av e1 e2 hvis
    obtain ⟨c, h1, h2⟩ := look fr
    refine ⟨u, r, .inr ⟨.inr fr, c, h1, ?_⟩⟩
    rcases q with ⟨k, _⟩ | ⟨_, c', e', z⟩
    · have k : X.env.scope.names.lookup y = some .local := k
      rcases ok.free _ (PySem.mem_of_lookup fr) rfl with k' | k' <;> rw [show X.env.scope.names.lookup y = _ from k'] at k <;> cases k
    · rw [h2] at e'
      cases e'
      exact z.keeps kp
  · rcases mem e with ⟨h1, _⟩ | ⟨h1, o, z1, z2⟩
    · obtain ⟨v, z⟩ := I.cell y c h1
      exact ⟨v, z.keeps kp⟩
    · exact ⟨_, o, kpc c o (by omega) z1, z2⟩
  · rcases mem e with ⟨h1, _⟩ | ⟨h1, _⟩
    · exact I.freeC y c h1
    · exact I.hok.fresh (Nat.le_of_succ_le h1)
end
/-- what a generator expression's turns ask: W of the turn, what is left, what is out, the heap -/
def Turns (J : It) (g : TG) (te : TE) (vs : List Nat) (σ : L2.St) (Q : List V → Hp → Prop) (W : Nat → Nat → List V → Hp → Prop) : Prop :=
  ∀ i m ys H, W i m ys H → (J.stop i H ∧ Q ys H) ∨ (J.go i H ∧ ∃ Nx : List V → Hp → Prop, (∀ zs H', Nx zs H' → ∃ m', m' < m ∧ W (i + 1) m' zs H') ∧
    ∀ x H', J.yld i H x H' → g x (wipe σ vs) H' fun σ2 H2 => wipe σ2 vs = wipe σ vs ∧ te σ2 H2 fun y H3 => ys.length < sizeLine ∧ Nx (ys ++ [y]) H3)
def GEnd (X : Cx) (S : Addr) (Q : List V → Hp → Prop) : GenEnd := fun n _ r s => r = .ok .next ∧ ∃ ys σ ip H, n + ys.length = sizeLine ∧ GI X S ip ys σ H s ∧ Q ys H
section
variable {X : Cx} {A : Around} {s : Shared} {H : Hp} {cenv : Env} {fp : List Addr} {pn : List (Addr × Obj)} {S it : Addr} {tn : Nat → Heap → Prop} {J : It} {tg elt iter : Expr} {scope : Scope} {pos : Pos} {g : TG} {te : TE} {vs : List Nat} {σ : L2.St} {Q : List V → Hp → Prop} {W : Nat → Nat → List V → Hp → Prop}
theorem gx_loop (hc : X.calm = true) (T : Turn X.prog X.w X.K tg J fp it tn) (pg : PG (gx X A s H cenv fp pn) tg g) (pe : PE (gx X A s H cenv fp pn) elt te) (hco : cenv.scope.isCoroutine = false)
    (hS : ∀ p ∈ pn, p.1 ≠ S) (hfS : ∀ b ∈ fp, S ≠ b) (hfn : ∀ b ∈ fp, ∀ p ∈ pn, p.1 ≠ b) (ap : Apart (gx X A s H cenv fp pn) S) (turn : Turns J g te vs σ Q W) :
    ∀ (m i n : Nat) (ys : List V) (s₀ s1 : Shared) (H1 : Hp), W i m ys H1 → GI (gx X A s H cenv fp pn) S [] ys (wipe σ vs) H1 s1 → tn i s1.heap → (∀ b ∈ fp, H1 b = none) → n + ys.length = sizeLine →
      Seg (model X.prog X.w) A (GEnd (gx X A s H cenv fp pn) S Q) (GY (gx X A s H cenv fp pn) S) n s₀ (.compLoop (.GeneratorExp elt [⟨tg, iter, [], 0⟩] scope pos) 0 (.ref it) .none cenv)
        ((model X.prog X.w).den (.compLoop (.GeneratorExp elt [⟨tg, iter, [], 0⟩] scope pos) 0 (.ref it) .none cenv)) [] s1 := by
  intro m
  induction m using Nat.strongRecOn with
  | _ m ih =>
    intro i n ys s₀ s1 H1 w1 gi st1 n1 hn
    have ov : A.over (.compLoop (.GeneratorExp elt [⟨tg, iter, [], 0⟩] scope pos) 0 (.ref it) .none cenv) [] = (gx X A s H cenv fp pn).A := over_loop0
    have stat : ∀ {σ' : L2.St} {H' : Hp} {s' : Shared} {acc : Array Value} {c : Nat}, L2.Inv (gx X A s H cenv fp pn) [(S, lstObj acc c)] σ' H' s' → (∀ b ∈ fp, H' b = none) → ∀ b ∈ fp, FpOk (gx X A s H cenv fp pn) [(S, lstObj acc c)] H' b := by
      intro σ' H' s' acc c I' hz b hb
      refine ⟨hz b hb, (I'.ok.exf b hb).1, I'.ok.exfs b hb, .inl hb, fun x c e => (I'.ok.exf b hb).2 x c e, fun p hp => ?_⟩
      rcases List.mem_append.mp hp with z | z
      · exact hfn b hb p z
      · rw [List.mem_singleton.mp z]
        exact hfS b hb
    show Seg _ A _ _ _ s₀ _ ((compTurn (.GeneratorExp elt [⟨tg, iter, [], 0⟩] scope pos) 0 (.ref it) .none cenv).onRaise (leaving cenv)) [] s1
    rw [compTurn_gen, Sem.onRaise_eq_wrap]
    refine seg_bind_wrap (wpAny_standAt ?_)
    obtain ⟨acc, cc, ra, I⟩ := gi
    rcases turn i m ys H1 w1 with ⟨stop, q⟩ | ⟨go, Nx, hNx, step⟩
    · refine seg_bind_wrap ?_
      rw [ov]
      refine wpAny_mono (T.done (gx X A s H cenv fp pn) rfl rfl rfl hc i _ s1 _ H1 _ I (stat I n1) st1 stop) (fun r s6 h6 => ?_) (fun _ _ z => z)
      obtain ⟨rfl, I6⟩ := h6
      exact seg_end (.ok .next) ⟨rfl, ys, _, [], H1, hn, ⟨acc, cc, ra, I6⟩, q⟩
    · refine seg_bind_wrap ?_
      rw [ov]
      refine wpAny_mono (T.item (gx X A s H cenv fp pn) rfl rfl rfl hc i _ s1 _ H1 _ I (stat I n1) st1 go) (fun r s6 h6 => ?_) (fun _ _ z => z)
      obtain ⟨u, rfl, h6⟩ := h6
      refine seg_bind_wrap ?_
      rw [ov]
      refine wpAny_mono h6 (fun _ s7 h7 => ?_) (fun _ _ z => z)
      obtain ⟨x, H7, I7, r7, y7, st7, n7⟩ := h7
      have I7' := I7.pinned (stat I7 n7) (T.obj _ _ st7)
      refine seg_bind_wrap ?_
      rw [ov]
      refine wpAny_mono (pg.run _ s7 _ H7 x u _ I7' r7 (step x H7 y7)) (fun _ s8 h8 => ?_) (fun _ _ z => z.elim)
      obtain ⟨σ8, H8, I8, hw8, q8⟩ := h8
      refine seg_bind_wrap ?_
      simp only [List.forIn_nil]
      refine wpAny_pure ?_
      simp only [if_true]
      have hy : ∀ v, yieldOut cenv v = yieldValue v := fun v => by simp only [yieldOut, hco, Bool.false_eq_true, if_false]
      simp only [hy]
      rw [Sem.bind_eq_wrap', Sem.bind_eq_wrap', Sem.wrap_wrap, Sem.wrap_wrap]
      refine seg_wrap ?_
      rw [ov]
      refine wpAny_mono (pe.run _ s8 σ8 H8 _ I8 q8) (fun yv s9 h9 => ?_) (fun _ _ z => z.elim)
      obtain ⟨y, H9, I9, r9, hlt, nx⟩ := h9
      obtain ⟨n', rfl⟩ : ∃ n', n = n' + 1 := ⟨n - 1, by omega⟩
      have hip : ∀ p ∈ pinsAt fp s7.heap, p.1 ≠ S := fun p hp => (hfS p.1 (of_pinsAt hp).1).symm
      have gi9 : GI (gx X A s H cenv fp pn) S (pinsAt fp s7.heap) ys σ8 H9 s9 := ⟨acc, cc, ra, I9⟩
      refine seg_at (seg_yield rfl rfl rfl ⟨ys, y, pinsAt fp s7.heap, σ8, H9, by omega, r9, gi9, fun s'' sl => ?_⟩)
      obtain ⟨acc2, c2, ra2, I10⟩ := gi9.woken hS hip ap r9 sl
      obtain ⟨m', hm, w'⟩ := hNx _ _ nx
      have pin' : ∀ b ∈ fp, ∀ o, s7.heap.get? b = some o → s''.heap.get? b = some o ∧ H9 b = none := by
        intro b hb o e
        have z := I10.pin (b, o) (List.mem_append_right _ (List.mem_cons_of_mem _ (mem_pinsAt hb e)))
        exact ⟨z.1, z.2.1⟩
      have hl : (wipe σ vs).length = σ8.length := by rw [← hw8, wipe_length]
      refine seg_again rfl (ih m' hm (i + 1) n' (ys ++ [y]) _ s'' H9 w' ⟨acc2, c2, ra2, ?_⟩ (T.keep _ _ _ st7 fun b hb o e => (pin' b hb o e).1) (fun b hb => ?_) (by rw [List.length_append]; show n' + (ys.length + 1) = sizeLine; omega))
      · refine (Inv.unpinned (pins := [(S, lstObj acc2 c2)]) (pl := pinsAt fp s7.heap) I10).weak hl fun j v e => ?_
        rw [← hw8] at e
        exact (wipe_some e).1
      · obtain ⟨o, e, _⟩ := T.obj _ _ st7 b hb
        exact (pin' b hb o e).2
end
section
variable {X : Cx} {A : Around} {s : Shared} {H : Hp} {cenv : Env} {fp : List Addr} {pn : List (Addr × Obj)} {S it : Addr} {tn : Nat → Heap → Prop} {J : It} {tg elt iter : Expr} {scope : Scope} {pos : Pos} {g : TG} {te : TE} {vs : List Nat} {σ : L2.St} {Q : List V → Hp → Prop} {W : Nat → Nat → List V → Hp → Prop}
theorem gx_start (hc : X.calm = true) (T : Turn X.prog X.w X.K tg J fp it tn) (pg : PG (gx X A s H cenv fp pn) tg g) (pe : PE (gx X A s H cenv fp pn) elt te) (hco : cenv.scope.isCoroutine = false)
    (hS : ∀ p ∈ pn, p.1 ≠ S) (hfS : ∀ b ∈ fp, S ≠ b) (hfn : ∀ b ∈ fp, ∀ p ∈ pn, p.1 ≠ b) (ap : Apart (gx X A s H cenv fp pn) S) (turn : Turns J g te vs σ Q W)
    {m : Nat} {s₀ s1 : Shared} {H1 : Hp} (w0 : W 0 m [] H1) (gi : GI (gx X A s H cenv fp pn) S [] [] (wipe σ vs) H1 s1) (st : tn 0 s1.heap) (n1 : ∀ b ∈ fp, H1 b = none) :
    Seg (model X.prog X.w) A (GEnd (gx X A s H cenv fp pn) S Q) (GY (gx X A s H cenv fp pn) S) sizeLine s₀ (.compStart (.GeneratorExp elt [⟨tg, iter, [], 0⟩] scope pos) 0 (.ref it) .none cenv)
      ((model X.prog X.w).den (.compStart (.GeneratorExp elt [⟨tg, iter, [], 0⟩] scope pos) 0 (.ref it) .none cenv)) [] s1 := by
  have loop := gx_loop (iter := iter) (scope := scope) (pos := pos) hc T pg pe hco hS hfS hfn ap turn m 0 sizeLine [] s₀ s1 H1 w0 gi st n1 (Nat.add_zero _)
  show Seg _ A _ _ _ s₀ _ ((compStart (.GeneratorExp elt [⟨tg, iter, [], 0⟩] scope pos) 0 (.ref it) .none cenv).onRaise (leaving cenv)) [] s1
  unfold compStart
  rw [Sem.onRaise_eq_wrap]
  show Seg _ A _ _ _ s₀ _ ((ask >>= _).wrap _ _ _ _) [] s1
  refine seg_bind_wrap (wpAny_askSetting ?_)
  split
  · exact seg_again rfl loop
  · first
    | exact seg_bind_wrap (wpAny_rule (seg_bind_wrap (wpAny_standAt (seg_bind_wrap (T.self _ 0 s1 _ _ st (seg_again rfl loop))))))
    | (refine seg_bind_wrap (wpAny_rule ?_)
       show Seg _ A _ _ _ s₀ _ ((standAt iter.pos >>= _).wrap _ _ _ _) [] s1
       exact seg_bind_wrap (wpAny_standAt (seg_bind_wrap (T.self _ 0 s1 _ _ st (seg_again rfl loop)))))
end
section
variable {X : Cx} {pins : List (Addr × Obj)} {σ : L2.St} {H : Hp} {s : Shared}
/-- a generator that stands ready: its frame at the size of s, its object behind it -/
theorem gx_made {scope : Scope} {own : List (Str × Nat)} {fp : List Addr} {code : Value} {it : Addr} {tn : Nat → Heap → Prop} {J : It} {tg elt iter : Expr} {pos : Pos} {g : TG} {te : TE} {Q : List V → Hp → Prop} {W : Nat → Nat → List V → Hp → Prop} {k m : Nat}
    (I : L2.Inv X pins σ H s) (ok : BlkOk X.N X.env.scope scope own) (hN : X.N.Nodup) (hco : scope.isCoroutine = false) (hc : X.calm = true)
    (T : Turn X.prog X.w X.K tg J fp it tn) (st : tn 0 s.heap) (hfp : ∀ b ∈ fp, FpOk X pins H b ∧ b < s.heap.objs.size)
    (pg : ∀ A pn, PG (gx X A s H (gxEnv X scope s code) fp pn) tg g) (pe : ∀ A pn, Room k A → PE (gx X A s H (gxEnv X scope s code) fp pn) elt te)
    (w0 : W 0 m [] H) (turn : Turns J g te (own.map (·.2)) σ Q W) {h' : Heap} {go : Obj} {nm qn : Value} {tk : Nat} {mC : Str → Option Value}
    (hC : h'.Ns s.heap.objs.size mC) (hsz : s.heap.objs.size + 1 ≤ h'.objs.size) (kpc : ∀ b o, b ≠ s.heap.objs.size → (pushCells (s.heap.push { cls := .type "frame", data := .dict #[] }) scope.names).get? b = some o → h'.get? b = some o)
    (hgc : go.cls = .type "generator") (hgd : go.data = .fields #[.int s.gens.size 0, nm, qn]) (hgs : go.slots = #[]) (hgp : (h'.push go).get? h'.objs.size = some go) :
    GMade X.prog X.w k X.stack H s fp Q E0 (.ref h'.objs.size) { s with gens := s.gens.push (.fresh (.compStart (.GeneratorExp elt [⟨tg, iter, [], 0⟩] scope pos) 0 (.ref it) .none (gxEnv X scope s code))), toks := tk, heap := h'.push go } := by
  have kp : ∀ b o, s.heap.get? b = some o → h'.get? b = some o := fun b o e => kpc b o (Nat.ne_of_lt (Heap.lt_size e)) (pushCells_keeps _ _ _ _ (Heap.get?_push_of_some _ e))
  have isg : ∀ h : Heap, h.get? h'.objs.size = some go → h.IsGen h'.objs.size s.gens.size := fun h e => ⟨go, nm, qn, e, hgc, hgd, hgs⟩
  have kp5 : ∀ b o, s.heap.get? b = some o → (h'.push go).get? b = some o := fun b o e => Heap.get?_push_of_some _ (kp b o e)
  refine ⟨h'.objs.size, s.gens.size, _, rfl, by omega, ?_, isg _ hgp, Array.getElem?_push_size .., rfl, AllBare.push I.bare rfl, I.nolimit.keeps kp5, kp5, ?_⟩
  · show _ < (h'.push go).objs.size
    rw [Heap.size_push]
    exact Nat.lt_succ_self _
  · intro Aw S s2 room hfr hSz hk2 hSo hos hba
    obtain ⟨cS, heS⟩ := hSo
    have hk2' : ∀ b o, (h'.push go).get? b = some o → s2.heap.get? b = some o := hk2
    have hSz' : h'.objs.size + 1 ≤ S := by
      have z : (h'.push go).objs.size ≤ S := hSz
      rw [Heap.size_push] at z
      exact z
    have ea : s2.heap.get? h'.objs.size = some go := hk2' _ _ hgp
    have lS : s.heap.objs.size < S := by omega
    have lH : h'.objs.size < S := by omega
    have lh : s.heap.objs.size < h'.objs.size := by omega
    have young : ∀ b, s.heap.objs.size < b → H b = none ∧ b ≠ s.heap.objs.size ∧ b ∉ frs X.stack := by
      intro b hb
      refine ⟨I.hok.fresh (Nat.le_of_lt hb), Nat.ne_of_gt hb, fun z => ?_⟩
      rcases List.mem_cons.mp (I.stkSub b z) with z | z
      · rw [z] at hb
        exact absurd (Nat.lt_trans hb I.lt) (Nat.lt_irrefl _)
      · exact I.nofs (Nat.le_of_lt hb) z
    have pinOk : ∀ p ∈ [(h'.objs.size, go)] ++ [(S, lstObj #[] cS)], s2.heap.get? p.1 = some p.2 ∧ H p.1 = none ∧ p.1 ≠ s.heap.objs.size ∧ p.1 ∉ frs X.stack ∧ ∀ v, p.2.data ≠ .cell v := by
      intro p hp
      rcases List.mem_append.mp hp with z | z
      · rw [List.mem_singleton.mp z]
        obtain ⟨y1, y2, y3⟩ := young h'.objs.size (by omega)
        exact ⟨ea, y1, y2, y3, fun v q => by rw [show go.data = _ from hgd] at q; cases q⟩
      · rw [List.mem_singleton.mp z]
        obtain ⟨y1, y2, y3⟩ := young S (by omega)
        exact ⟨heS, y1, y2, y3, fun v q => by cases q⟩
    have I2 := gx_inv (own := own) (code := code) (A := Aw) (pn := [(h'.objs.size, go)]) (pins5 := [(S, lstObj #[] cS)]) I ok hN hfp room.hd hfr (fun b o hb e => hk2' b o (Heap.get?_push_of_some _ (kpc b o hb e)))
      ⟨mC, hC.keeps fun b o e => hk2' b o (Heap.get?_push_of_some _ e)⟩ hos hba pinOk
    have hcell : ∀ x c, (gxEnv X scope s code).cells.lookup x = some c → c < h'.objs.size := by
      intro x c e
      have hcl : (gxEnv X scope s code).cells = cellsFrom (s.heap.push { cls := .type "frame", data := .dict #[] }).objs.size scope.names (cloFrom X.env.cells scope.names []) := by rw [Heap.size_push]; rfl
      rw [hcl] at e
      rcases cells_mem (PySem.mem_of_lookup e) with hm | ⟨_, h2, o, z1, z2⟩
      · rcases cloFrom_mem hm with z2 | ⟨h1, rfl⟩
        · cases z2
        · obtain ⟨c2, hc2⟩ : ∃ c2, X.env.cells.lookup x = some c2 := (ok.free _ h1 rfl).elim (fun k => I.ok.has _ (.inl k)) (fun k => I.ok.has _ (.inr k))
          obtain ⟨_, z3⟩ := I.cell _ _ hc2
          rw [hc2]
          exact Nat.lt_trans z3.lt lh
      · rw [Heap.size_push] at h2
        exact Heap.lt_size (kpc c o (by omega) z1)
    have ap : Apart (gx X Aw s H (gxEnv X scope s code) fp [(h'.objs.size, go)]) S := ⟨by show s.heap.objs.size ≤ S; omega, Nat.ne_of_gt lS, fun x c e => Nat.ne_of_lt (Nat.lt_of_lt_of_le (hcell x c e) (by omega))⟩
    have seg := gx_start (iter := iter) (scope := scope) (pos := pos) (S := S) (s₀ := s2) hc T (pg Aw [(h'.objs.size, go)]) (pe Aw [(h'.objs.size, go)] room) hco (fun p hp => by rw [List.mem_singleton.mp hp]; exact Nat.ne_of_lt lH)
      (fun b hb => Nat.ne_of_gt (Nat.lt_trans (hfp b hb).2 lS)) (fun b hb p hp => by rw [List.mem_singleton.mp hp]; exact Nat.ne_of_gt (Nat.lt_trans (hfp b hb).2 lh)) ap turn w0 ⟨#[], cS, .nil, I2⟩
      (T.keep _ _ _ st fun b _ o e => hk2' b o (kp5 b o e)) (fun b hb => (hfp b hb).1.1)
    refine seg_imp (fun n s₀ r s1 hR => ?_) (fun n s₀ v s1 kap kap' hkk hY => ?_) sizeLine seg
    · obtain ⟨rfl, ys, σ', ip, H', hn, gi, hq⟩ := hR
      obtain ⟨a1, _, _, acc, cc, ra, ea⟩ := gi.at
      obtain ⟨_, _, _, J1⟩ := gi
      exact .inl ⟨.inr rfl, H', ys, acc, cc, J1.os, J1.bare, J1.base, J1.hok, a1, ea, ra, by omega, hq⟩
    · obtain ⟨ys, xx, ip, σ', H', hn, h2, gi, h3⟩ := hY
      obtain ⟨_, _, _, acc, cc, ra, ea⟩ := gi.at
      obtain ⟨_, _, _, J1⟩ := gi
      have hg : s1.heap.IsGen h'.objs.size s.gens.size := isg _ (J1.pin (h'.objs.size, go) (List.mem_append_left _ (List.mem_singleton.mpr rfl))).1
      have len : acc.size = ys.length := by
        have e1 := ra.length
        have e2 : acc.toList.length = acc.size := by simp
        omega
      exact ⟨J1.os, J1.bare, J1.nolimit, hg, ⟨acc, cc, ea, by rw [len]; exact hn⟩, fun s' z => hkk _ _ (h3 s' z)⟩
end
/-! ### tuple(generator) -/
section
variable {P : Program} {w : World} {outer : List Env} {H : Hp} {sc s : Shared} {ex : List Addr} {Q : List V → Hp → Prop} {A : Around} {k : Nat} {E : Value → Shared → Prop}
theorem collect_made {u : Value} {Qc : List Value → Shared → Prop} (hr : Room (k + 3) A) (hfr : A.frames = some outer) (h : GMade P w k outer H sc ex Q E0 u s)
    (hQ : ∀ (s' : Shared) (acc : List Value) (H' : Hp) (ys : List V), L2.Vals ys acc → ys.length ≤ sizeLine → s'.os = sc.os → AllBare s'.gens → Un (frs outer) ex H H' sc.heap s'.heap → HOk P w H' s'.heap → Q ys H' → Qc acc s')
    (hexc : ∀ e s', ¬ CX P w outer H sc E0 e s') : wpAny (model P w) A (collect u) Qc E s := by
  obtain ⟨a, g, c, rfl, ha1, ha2, hg, hgs, hos, hb, hl, hkp, wake⟩ := h
  have hSa : s.heap.objs.size ≠ a := Nat.ne_of_gt ha2
  have hSc : s.heap.objs.size ≠ cStatics := Nat.ne_of_gt (let ⟨_, hn, _⟩ := hl; hn.lt)
  unfold collect
  refine wpAny_bind (wpAny_runValue (codeAny_builtin F.entry_proto_collect ?_))
  rw [Around.under_plainId F.plain_proto_collect _]
  show wpAny _ A.in1 (newList [] >>= fun l0 => again (.builtin "list.__iadd__" ⟨[l0, .ref a], []⟩)) _ _ s
  refine wpAny_bind (wpAny_newObj_type ?_)
  refine wpAny_pure ⟨plainId_quiet F.plain_list_iadd _, codeAny_builtin F.entry_list_iadd ?_⟩
  rw [Around.under_plainId F.plain_list_iadd _]
  show wpAny _ A.in1 (Builtin.List.listExtendWith (.ref s.heap.objs.size) (.ref a) (.ref s.heap.objs.size)) _ _ _
  unfold Builtin.List.listExtendWith
  have up : ∀ (h : Heap) (f : Obj → Obj), (∀ b o, s.heap.get? b = some o → h.get? b = some o) → ∀ b o, s.heap.get? b = some o → (h.update s.heap.objs.size f).get? b = some o := by
    intro h f q b o e
    exact (Heap.get?_update_other _ _ (Ne.symm (Nat.ne_of_lt (Heap.lt_size e)))).trans (q b o e)
  have k1 : ∀ b o, s.heap.get? b = some o → (s.heap.push { cls := .type "list", data := .seq ([] : List Value).toArray }).get? b = some o := fun b o e => Heap.get?_push_of_some _ e
  have isg : ∀ {h : Heap}, (∀ b o, s.heap.get? b = some o → h.get? b = some o) → h.IsGen a g := fun q => hg.keeps q
  refine wpAny_bind (wpAny_typeOf (Heap.IsGen.typeIs (s := { s with heap := _ }) (isg k1)) ?_)
  have h1 : Builtin.List.listSameRef (.ref s.heap.objs.size) (.ref a) = false := by simp [Builtin.List.listSameRef, hSa]
  have h2 : (Value.type "generator" == Value.type "list") = false := by decide
  have h3 : (Value.type "generator" == Value.type "tuple") = false := by decide
  simp only [h1, h2, h3, Bool.or_false, Bool.false_eq_true, if_false]
  refine wpAny_bind (wpAny_pyIter_gen (s := { s with heap := _ }) (isg k1) ?_)
  refine wpAny_bind (wpAny_holding ?_)
  unfold Builtin.List.listLengthHint
  refine wpAny_bind (wpAny_specialOf (Heap.IsGen.typeIs (s := { s with heap := _ }) (isg k1)) F.gen_no_len ?_)
  show wpAny _ A.in1 (specialOf (Value.ref a) (Str.ofString "__length_hint__") >>= _) _ _ _
  refine wpAny_bind (wpAny_specialOf (Heap.IsGen.typeIs (s := { s with heap := _ }) (isg k1)) F.gen_no_hint ?_)
  refine wpAny_pure ?_
  show wpAny _ A.in1 (rule "list.extend.makes-room" >>= fun _ => Builtin.List.listTouch (.ref s.heap.objs.size) >>= fun _ => again (.builtin "list.extend.loop" ⟨[.ref s.heap.objs.size, .ref a, .ref s.heap.objs.size], []⟩)) _ _ _
  refine wpAny_bind (wpAny_rule (wpAny_bind ?_))
  have hS1 : (s.heap.push { cls := .type "list", data := .seq ([] : List Value).toArray }).get? s.heap.objs.size = some { cls := .type "list", data := .seq ([] : List Value).toArray } := Heap.get?_push_size _ rfl
  show wpAny _ A.in1 (updateSeq s.heap.objs.size (·.push .none) >>= fun _ => updateSeq s.heap.objs.size (·.pop)) _ _ _
  refine wpAny_bind (wpAny_updateSeq hS1 rfl ?_)
  have hS2 := Heap.get?_update_self (Obj.mapSeq (·.push Value.none)) hS1 rfl
  refine wpAny_updateSeq hS2 rfl ?_
  have hS3 := Heap.get?_update_self (Obj.mapSeq (·.pop)) hS2 rfl
  have k3 := up _ (Obj.mapSeq (·.pop)) (up _ (Obj.mapSeq (·.push Value.none)) k1)
  refine wpAny_pure ⟨plainId_quiet F.plain_extend_loop _, ?_⟩
  refine drain (P := P) (w := w) (outer := outer) (H := H) (sc := sc) (ex := ex) (Q := Q) (EX := E0) (A := A) (g := g) hr.hd (by have := hr.dp; show A.depth < _; omega) hSa hSc
    (fun s' acc c H' ys q1 q2 q3 q4 q5 q6 q7 q8 q9 => ?_) (fun e s' z => (hexc e s' z).elim) sizeLine _ (isg k3) (hl.keeps k3) ⟨_, hgs, rfl, ?_⟩
  · show wpAny _ A (load s.heap.objs.size >>= _) _ _ s'
    refine wpAny_bind (wpAny_load q1 ?_)
    exact wpAny_pure (hQ s' acc.toList H' ys q2 q3 q4 q5 q6 q7 q9)
  · refine wake _ _ _ ⟨hr.hd, ?_, ?_⟩ hfr (Nat.le_refl _) k3 ⟨_, hS3⟩ hos (allBare_setGen (s := { s with heap := _ }) hb rfl)
    · have := hr.dp
      show A.depth + 3 * k + 5 < _
      omega
    · have := hr.un
      show A.units + 1 + 1 + 16 * k + 200 < _
      omega
theorem tuple_new_made {u : Value} {Q1 : Value → Shared → Prop} (hr : Room (k + 4) A) (hfr : A.frames = some outer) (h : GMade P w k outer H sc ex Q E0 u s)
    (hQ : ∀ (s' : Shared) (acc : List Value) (H' : Hp) (ys : List V), L2.Vals ys acc → ys.length ≤ sizeLine → s'.os = sc.os → AllBare s'.gens → Un (frs outer) ex H H' sc.heap s'.heap → HOk P w H' s'.heap → Q ys H' →
      Q1 (.ref s'.heap.objs.size) { s' with heap := s'.heap.push { cls := .type "tuple", data := .seq acc.toArray } })
    (hexc : ∀ e s', ¬ CX P w outer H sc E0 e s') : codeAny (model P w) A (.call (.builtin "tuple.__new__") ⟨[.type "tuple", u], []⟩) (wants Q1 E) s := by
  obtain ⟨a, g, c, ea, _, _, hg, _⟩ := id h
  subst ea
  refine codeAny_of_tree ?_
  show wpAny _ A.in1 (do checkBuiltinCall "tuple.__new__" ⟨[.type "tuple", .ref a], []⟩; again (.builtin "tuple.__new__" ⟨[.type "tuple", .ref a], []⟩)) _ _ s
  refine wpAny_bind (wpAny_of_eq (F.newCall_tuple_1 _) (wpAny_pure ⟨plainId_quiet F.plain_tuple_new _, codeAny_builtin F.entry_tuple_new ?_⟩))
  rw [Around.under_plainId F.plain_tuple_new _]
  have hsub := sub_tuple_self
  have hinit := init_tuple_lookup
  have hmh := madeHere_tuple
  have hTI := hg.typeIs
  have hr1 : Room (k + 3) A.in1 := hr.in1
  wp_walk using wpAny_typeOf hTI, collect_made hr1 hfr h
  · intro s' acc H' ys q1 q2 q3 q4 q5 q6 q7
    show wpAny _ _ (Builtin.Tuple.tupleExact acc.toArray >>= fun v => ret v) _ _ _
    unfold Builtin.Tuple.tupleExact
    refine wpAny_bind (wpAny_newObj_type ?_ (by show acc.toArray.size ≤ sizeLine; rw [List.size_toArray, ← q1.length]; exact q2))
    exact wpAny_pure (hQ s' acc H' ys q1 q2 q3 q4 q5 q6 q7)
  · exact hexc
theorem call_tuple_made {u : Value} {Q' : Value → Shared → Prop} (hr : Room (k + 5) A) (hfr : A.frames = some outer) (h : GMade P w k outer H sc ex Q E0 u s)
    (hQ : ∀ (s' : Shared) (acc : List Value) (H' : Hp) (ys : List V), L2.Vals ys acc → ys.length ≤ sizeLine → s'.os = sc.os → AllBare s'.gens → Un (frs outer) ex H H' sc.heap s'.heap → HOk P w H' s'.heap → Q ys H' →
      Q' (.ref s'.heap.objs.size) { s' with heap := s'.heap.push { cls := .type "tuple", data := .seq acc.toArray } })
    (hexc : ∀ e s', ¬ CX P w outer H sc E0 e s') : wpAny (model P w) A (call (.type "tuple") [u]) Q' E s := by
  refine callType_codes (Q₁ := fun obj s₁ => s₁.TypeIs obj "tuple" ∧ Q' obj s₁) F.called_tuple (F.typeCall_tuple_1 _) F.entry_object_init
    (tuple_new_made hr.in1 hfr h (fun s' acc H' ys q1 q2 q3 q4 q5 q6 q7 => ⟨⟨_, Heap.get?_push_size _ rfl, rfl⟩, hQ s' acc H' ys q1 q2 q3 q4 q5 q6 q7⟩) hexc) fun obj s₁ h₁ => ?_
  exact ⟨h₁.1, F.args_object_init_2 obj _, object_init_meets F.called_tuple.init.lookup F.called_tuple.made (by decide) P w A.in1 _ s₁ ⟨h₁.1, rfl, h₁.2⟩⟩
end
/-! ### the expression tuple(e for x in xs) -/
def tTupGx (P : Addr) (wi : TI) (g : TG) (te : TE) (vs : List Nat) : TE := fun σ H Q => wi σ H fun J H1 => GxR.TabG H1 P ∧ ∀ H2, GxR.Tabbed P H1 H2 →
  ∃ W : Nat → Nat → List V → Hp → Prop, (∃ m, W 0 m [] H2) ∧ Turns J g te vs σ (fun ys H' => ∀ p, H' p = none → Q (.ref p) (upd H' p (.tup ys))) W
section
variable {X : Cx}
theorem gx_eval {k : Nat} {c P : Addr} {elt tg iter : Expr} {scope : Scope} {own : List (Str × Nat)} {gpos : Pos} {wi : TI} {g : TG} {te : TE} {pins : List (Addr × Obj)} {s : Shared} {σ : L2.St} {H : Hp} {R : List V → Hp → Prop} {Q' : Value → Shared → Prop} (hc : X.calm = true) (hr : Room (k + 5) X.A) (hN : X.N.Nodup)
    (TB : GxR.TabB X.base X.mg c P) (hcode : X.env.code = .ref c) (hi : PI X tg iter wi) (ok : BlkOk X.N X.env.scope scope own) (hco : scope.isCoroutine = false) (dot : scope.names.lookup (".0" : Str) = some NameKind.local)
    (pg : ∀ (A : Around) (s : Shared) (H : Hp) (code : Value) (fp : List Addr) (pn : List (Addr × Obj)), PG (gx X A s H (gxEnv X scope s code) fp pn) tg g)
    (pe : ∀ (A : Around) (s : Shared) (H : Hp) (code : Value) (fp : List Addr) (pn : List (Addr × Obj)), Room k A → PE (gx X A s H (gxEnv X scope s code) fp pn) elt te)
    (hs : ∀ v, genFold iter X.env v = pure v) (I : L2.Inv X pins σ H s)
    (h : wi σ H fun J H1 => GxR.TabG H1 P ∧ ∀ H2, GxR.Tabbed P H1 H2 → ∃ W : Nat → Nat → List V → Hp → Prop, (∃ m, W 0 m [] H2) ∧ Turns J g te (own.map (·.2)) σ R W)
    (hQ : ∀ (u : Value) (s5 sc : Shared) (H2 : Hp) (fp : List Addr), L2.Inv X pins σ H2 sc → (∀ b ∈ fp, FpOk X pins H2 b) → GMade X.prog X.w k X.stack H2 sc fp R E0 u s5 → Q' u s5) :
    wpAny (model X.prog X.w) X.A (eval (.GeneratorExp elt [⟨tg, iter, [], 0⟩] scope gpos) X.env) Q' X.xe s := by
  have hfree : ∀ y ∈ scope.names, y.2 = .free → ∃ c, X.env.cells.lookup y.1 = some c := by
    intro y hy e
    exact (ok.free y hy e).elim (fun k => I.ok.has _ (.inl k)) (fun k => I.ok.has _ (.inr k))
  refine make_gen hco (closure_ok hfree) dot ok.kind (by have := hr.dp; omega) ?_ hs
  refine thn (hi.run pins s σ H _ I h) fun xv s1 h1 => thn h1 fun itv s2 h2 => ?_
  obtain ⟨it, fp, tn, J, H1, e, I2, T, st2, f2, ⟨ps, hP, ht⟩, q⟩ := h2
  subst e
  have hPs : s2.heap.get? P = some { cls := .none, data := .fields ps } := I2.hok P _ hP
  have cd : PySem.W.CodeHd s2.heap c P := TB.code.keeps I2.bk
  have nP : ∀ b ∈ fp, b ≠ P := fun b hb z => by
    have y := (f2 b hb).1
    rw [z, hP] at y
    cases y
  have hcP : cStatics ≠ P := fun e => by
    obtain ⟨_, hns, _⟩ := I2.nolimit
    obtain ⟨o', es, ep, ho, hd, _⟩ := hns
    rw [e, hPs] at ho
    cases ho
    cases hd
  refine ⟨I2.nolimit, ?_⟩
  have cont : ∀ (code : Value) (h3 : Heap) (tk : Nat) (ps' : Array Value), Heap.ExtBut P s2.heap h3 → s2.heap.objs.size ≤ h3.objs.size → h3.get? P = some { cls := .none, data := .fields ps' } → (∃ more, ps' = ps ++ more) → TriplesOk ps'.toList →
      wpAny (model X.prog X.w) X.A (builtinsFor X.env.globals X.env.builtins) (fun bi s₄ => ∀ h', h'.Ns s₄.heap.objs.size (fun y => if y = ".0" then some (Value.ref it) else none) → Heap.SameBut s₄.heap.objs.size (pushCells (s₄.heap.push { cls := .type "frame", data := .dict #[] }) scope.names) h' →
        Q' (Value.ref h'.objs.size) ({ s₄ with
          gens := s₄.gens.push (.fresh (.compStart (.GeneratorExp elt [⟨tg, iter, [], 0⟩] scope gpos) 0 (.ref it) .none (genEnv scope (cellsFrom (s₄.heap.objs.size + 1) scope.names (cloFrom X.env.cells scope.names [])) s₄.heap.objs.size code bi X.env))),
          toks := s₄.toks + 1 + 1 + 1,
          heap := h'.push { cls := .type "generator", data := .fields #[.int s₄.gens.size 0, .str "<genexpr>" (s₄.toks + 1), .str (X.env.qual ++ "<genexpr>") (s₄.toks + 1 + 1)] } } : Shared)) X.xe { s2 with heap := h3, toks := tk } := by
    intro code h3 tk ps' hx hsz hP3 hmore ht3
    obtain ⟨bm, ob, e1, e2, e3, e4, e5, e6, e7, e8⟩ := TB.bm
    have keep3 : ∀ b u, b ≠ P → s2.heap.get? b = some u → h3.get? b = some u := fun b u hb e => hx b u hb e
    refine wpAny_builtinsFor (m := X.mg) (by rw [I2.ok.glob]; exact (I2.mod.glob.keeps I2.bk).extBut hx TB.gP) e1 e2 (keep3 _ _ e4 (I2.bk _ _ e5)) e6 e7 e8 ?_
    intro h' hn' hs'
    obtain ⟨more, em⟩ := hmore
    have I3 : L2.Inv X pins σ (upd H1 P (.tbl (ps ++ more))) { s2 with heap := h3, toks := tk } :=
      GxR.inv_tab (more := more) (h' := h3) (g' := s2.gens) (d' := s2.drawn) (t' := tk) I2 hP keep3 (by rw [← em]; exact hP3) I2.bare
    obtain ⟨W, ⟨m, w0⟩, turn⟩ := q _ (show GxR.Tabbed P H1 (upd H1 P (.tbl (ps ++ more))) from ⟨⟨ps ++ more, upd_same, by rw [← em]; exact ht3⟩, fun b hb => upd_ne hb⟩)
    have fp3 : ∀ b ∈ fp, FpOk X pins (upd H1 P (.tbl (ps ++ more))) b ∧ b < h3.objs.size := by
      intro b hb
      obtain ⟨o, eo, _⟩ := T.obj _ _ st2 b hb
      refine ⟨⟨by rw [upd_ne (nP b hb)]; exact (f2 b hb).1, (f2 b hb).2⟩, Nat.lt_of_lt_of_le (Heap.lt_size eo) hsz⟩
    have st3 : tn 0 h3 := T.keep _ _ _ st2 fun b hb o e => keep3 b o (nP b hb) e
    have hsz' : h3.objs.size + 1 ≤ h'.objs.size := by
      rw [hs'.1]
      refine Nat.le_trans ?_ (pushCells_size _ _)
      rw [Heap.size_push]
      exact Nat.le_refl _
    have kp' : ∀ b o, b ≠ h3.objs.size → (pushCells (h3.push { cls := .type "frame", data := .dict #[] }) scope.names).get? b = some o → h'.get? b = some o := fun b o hb e => hs'.extBut b o hb e
    have made := gx_made (k := k) (own := own) (code := code) (iter := iter) (pos := gpos) (tk := tk + 1 + 1 + 1) I3 ok hN hco hc T st3 fp3 (fun A pn => pg A _ _ code fp pn) (fun A pn hq => pe A _ _ code fp pn hq) w0 turn hn' hsz' kp'
      (go := { cls := .type "generator", data := .fields #[.int s2.gens.size 0, .str "<genexpr>" (tk + 1), .str (X.env.qual ++ "<genexpr>") (tk + 1 + 1)] }) rfl rfl rfl (Heap.get?_push_size _ rfl)
    exact hQ _ _ _ _ fp I3 (fun b hb => (fp3 b hb).1) made
  cases hf : codeAmong gpos ps.toList with
  | none =>
    refine wpAny_genexprCodeX hcode (cd.code hPs ht) (cd.tab hPs) hf fun c' h' tk hx hge hlt hco' _ htab' _ => ?_
    obtain ⟨o1, vs, f1, tf, fl, tg', inF, tx, tt, op, _, _, _, _, _, _, _, _, _, htr, _⟩ := hco'
    exact cont _ h' tk _ hx (Nat.le_trans hge (Nat.le_of_lt hlt)) htab'.2 ⟨_, rfl⟩ htr
  | some cv =>
    refine wpAny_genexprCode_hit hcode (cd.code hPs ht) hf ?_
    exact cont cv s2.heap s2.toks ps (Heap.ExtBut.refl _ _) (Nat.le_refl _) hPs ⟨#[], by simp⟩ ht
theorem pe_tupGx {k : Nat} {c P : Addr} {elt tg iter : Expr} {scope : Scope} {own : List (Str × Nat)} {p pos gpos : Pos} {wi : TI} {g : TG} {te : TE} (hc : X.calm = true) (hr : Room (k + 5) X.A) (hN : X.N.Nodup) (hg : Gl X "tuple") (hm : X.mg "tuple" = none)
    (TB : GxR.TabB X.base X.mg c P) (hcode : X.env.code = .ref c) (hi : PI X tg iter wi) (ok : BlkOk X.N X.env.scope scope own) (hco : scope.isCoroutine = false) (dot : scope.names.lookup (".0" : Str) = some NameKind.local)
    (pg : ∀ (A : Around) (s : Shared) (H : Hp) (code : Value) (fp : List Addr) (pn : List (Addr × Obj)), PG (gx X A s H (gxEnv X scope s code) fp pn) tg g)
    (pe : ∀ (A : Around) (s : Shared) (H : Hp) (code : Value) (fp : List Addr) (pn : List (Addr × Obj)), Room k A → PE (gx X A s H (gxEnv X scope s code) fp pn) elt te)
    (hs : ∀ v, genFold iter X.env v = pure v)
    (he : starEach [.GeneratorExp elt [⟨tg, iter, [], 0⟩] scope gpos] X.env = (false, eval (.GeneratorExp elt [⟨tg, iter, [], 0⟩] scope gpos) X.env) :: starEach [] X.env := by rfl) :
    PE X (.Call (.Name "tuple" p) [.GeneratorExp elt [⟨tg, iter, [], 0⟩] scope gpos] [] pos) (tTupGx P wi g te (own.map (·.2))) := by
  refine ⟨fun pins s σ H Q I h => ?_⟩
  refine Call_ (ld_blt I hg hm boot_tuple (PyProof.Rows.callWith_type1 (args_cons ?_ he) he rfl))
  refine gx_eval hc hr hN TB hcode hi ok hco dot pg pe hs I h fun u s5 sc H2 fp I3 fp3 made => args_nil ?_
  refine call_tuple_made hr I.ok.frames made (fun s' acc H' ys q1 q2 q3 q4 q5 q6 q7 => ?_) (fun e s' z => ?_)
  · have J3 : L2.Inv X pins σ H' s' := I3.call' (ch := fp) q3 q5 q6 q4 fun b hb => ⟨(fp3 b hb).2.2.2.1, (fp3 b hb).2.1, (fp3 b hb).2.2.2.2.1, (fp3 b hb).2.2.2.2.2⟩
    refine ⟨.ref _, _, J3.laid (t' := s'.toks) (o := .tup ys) (fun b ob z => Heap.get?_push_of_some _ z) (Nat.le_refl _) ?_, rfl, q7 _ (J3.hok.fresh (Nat.le_refl _))⟩
    exact ⟨q2, acc, q1, _, Heap.get?_push_size _ rfl, rfl, _, rfl⟩
  · obtain ⟨_, _, _, _, _, _, _, _, _, _, _, _, z⟩ := z
    exact z
end
end Gx
set_option maxHeartbeats 4000000
/-! tuple * int, also by 0 and by 1. -/
namespace Gx
open PySem PySem.Spec PyProof.Rows L2
theorem tuple_mul1 (l : Addr) (items : Array Value) (n : Nat) (dd : Option Addr) (sl : Array (Option Value)) (u : Tok) :
    Meets (Builtin.«tuple.__mul__» ⟨[.ref l, .int 1 u], []⟩) (fun _ R s => s.heap.get? l = some { cls := .type "tuple", dict := dd, data := .seq items n, slots := sl } ∧ R (.ok (.ret (Value.ref l))) s) :=
  .of_wp fun prog w A R s h => by
    obtain ⟨hp, g, d, tk, os⟩ := s
    obtain ⟨hl, h⟩ := h
    have f1 := AutoSeq1.idx_int
    wp_walk using wpAny_loadPart' hl
    repeat (first
      | (refine wpAny_ite_false (decide_eq_false (by decide)) ?_; wp_walk using wpAny_loadPart' hl)
      | (refine wpAny_ite_true (decide_eq_true (by simp)) ?_; wp_walk using wpAny_loadPart' hl))
    exact ⟨_, rfl, h⟩
theorem tuple_mul0 (l : Addr) (items : Array Value) (n : Nat) (dd : Option Addr) (sl : Array (Option Value)) (u : Tok) (c1 : items.isEmpty = false) :
    Meets (Builtin.«tuple.__mul__» ⟨[.ref l, .int 0 u], []⟩) (fun _ R s => s.heap.get? l = some { cls := .type "tuple", dict := dd, data := .seq items n, slots := sl } ∧
      R (.ok (.ret (Value.ref s.heap.objs.size))) { s with heap := s.heap.push { cls := Value.type "tuple", data := Data.seq #[] }, toks := s.toks }) :=
  .of_wp fun prog w A R s h => by
    obtain ⟨hp, g, d, tk, os⟩ := s
    obtain ⟨hl, h⟩ := h
    have f1 := AutoSeq1.idx_int
    wp_walk using wpAny_loadPart' hl
    repeat (first
      | (refine wpAny_ite_false (decide_eq_false (by decide)) ?_; wp_walk using wpAny_loadPart' hl)
      | (refine wpAny_ite_false (decide_eq_false (by rw [c1]; decide)) ?_; wp_walk using wpAny_loadPart' hl)
      | (refine wpAny_ite_true (decide_eq_true (by simp)) ?_; wp_walk using wpAny_loadPart' hl))
    exact ⟨_, rfl, h⟩
def rRepA (K : PySem.W.Frag) : R2 := fun x y H Q => ∃ l k xs, x = .ref l ∧ y = .int k ∧ SqT K H l xs ∧ xs ≠ [] ∧ 0 ≤ k ∧ k ≤ 1000 ∧ xs.length ≤ 1000 ∧ (k = 1 → Q (.ref l) H) ∧ (k ≠ 1 → ∀ p, H p = none → Q (.ref p) (upd H p (.tup (List.replicate k.toNat xs).flatten)))
section
variable {X : Cx}
theorem op_repA : OpR X (binaryOp .Mult) (rRepA X.K) := by
  intro pins s σ H x y v u Q I rx ry h
  obtain ⟨l, k, xs, rfl, rfl, hT, hne, h1, h2, hz, q1, q⟩ := h
  by_cases k2 : 2 ≤ k
  · exact op_repT pins s σ H _ _ v u Q I rx ry ⟨l, k, xs, rfl, rfl, hT, hne, k2, h2, hz, q (by omega)⟩
  · cases rx
    obtain ⟨t, rfl⟩ := ry
    have hT0 := hT
    obtain ⟨its, r, ⟨⟨cls, dd, data, sl⟩, ho, hc, n, hd⟩, hs⟩ := I.tuple hT
    simp only at hc hd
    subst hc hd
    have hle : its.length = xs.length := r.length.symm
    have hn : its ≠ [] := fun e => hne (by
      rw [e] at hle
      exact List.eq_nil_of_length_eq_zero hle.symm)
    have hi : its.toArray.isEmpty = false := by
      cases its with
      | nil => exact absurd rfl hn
      | cons a b => rfl
    rcases (show k = 0 ∨ k = 1 by omega) with rfl | rfl
    · refine wpAny_binaryOp_repeat_ref (T := "tuple") (U := "int") (by decide) ⟨_, ho, rfl⟩ (fun s' => typeIs_int s' 0 t) noFill_tuple_mul F.fills_int_mul F.slot_int_rmul repeat_tuple F.slot_int_index.lookup
        (call_meets F.slot_int_rmul (typeIs_int s 0 t) F.entry_int_rmul (F.args_int_rmul_2 _ _) (int_rmul_tuple 0 t l its.toArray n dd sl)
          ⟨ho, rfl, ⟨_, ho, rfl⟩, call_meets F.slot_tuple_mul ⟨_, ho, rfl⟩ F.entry_tuple_mul (F.args_tuple_mul_2 _ _) (tuple_mul0 l its.toArray n dd sl t hi) ⟨ho, ?_⟩⟩)
      refine ⟨.ref s.heap.objs.size, _, I.laid (t' := s.toks) (o := .tup []) (fun b ob q => Heap.get?_push_of_some _ q) (Nat.le_refl _) ?_, rfl, q (by decide) _ (I.hok.fresh (Nat.le_refl _))⟩
      exact ⟨by simp [sizeLine_eq], [], .nil, IsTup.new _ _⟩
    · refine wpAny_binaryOp_repeat_ref (T := "tuple") (U := "int") (by decide) ⟨_, ho, rfl⟩ (fun s' => typeIs_int s' 1 t) noFill_tuple_mul F.fills_int_mul F.slot_int_rmul repeat_tuple F.slot_int_index.lookup
        (call_meets F.slot_int_rmul (typeIs_int s 1 t) F.entry_int_rmul (F.args_int_rmul_2 _ _) (int_rmul_tuple 1 t l its.toArray n dd sl)
          ⟨ho, rfl, ⟨_, ho, rfl⟩, call_meets F.slot_tuple_mul ⟨_, ho, rfl⟩ F.entry_tuple_mul (F.args_tuple_mul_2 _ _) (tuple_mul1 l its.toArray n dd sl t) ⟨ho, ?_⟩⟩)
      exact ⟨.ref l, H, I, rfl, q1 rfl⟩
end
end Gx
set_option linter.all false
namespace Lin
/-! rows as functions Nat → Int, round a prime p: spans, and what clearing by leads tells -/
def Cg (p a b : Int) : Prop := ∃ c, a = b + p * c
theorem Cg.rfl' {p a : Int} : Cg p a a := ⟨0, by simp⟩
theorem Cg.mod {p : Int} (a : Int) : Cg p (a % p) a := ⟨-(a / p), by have := Int.emod_def a p; rw [Int.mul_neg]; omega⟩
theorem Cg.add {p a b c d : Int} (h : Cg p a b) (k : Cg p c d) : Cg p (a + c) (b + d) := by
  obtain ⟨x, rfl⟩ := h
  obtain ⟨y, rfl⟩ := k
  exact ⟨x + y, by grind⟩
theorem Cg.sub {p a b c d : Int} (h : Cg p a b) (k : Cg p c d) : Cg p (a - c) (b - d) := by
  obtain ⟨x, rfl⟩ := h
  obtain ⟨y, rfl⟩ := k
  exact ⟨x - y, by grind⟩
theorem Cg.mul {p a b c d : Int} (h : Cg p a b) (k : Cg p c d) : Cg p (a * c) (b * d) := by
  obtain ⟨x, rfl⟩ := h
  obtain ⟨y, rfl⟩ := k
  exact ⟨b * y + x * d + p * x * y, by grind⟩
theorem Cg.trans {p a b c : Int} (h : Cg p a b) (k : Cg p b c) : Cg p a c := by
  obtain ⟨x, rfl⟩ := h
  obtain ⟨y, rfl⟩ := k
  exact ⟨x + y, by grind⟩
theorem Cg.symm {p a b : Int} (h : Cg p a b) : Cg p b a := by
  obtain ⟨x, rfl⟩ := h
  exact ⟨-x, by grind⟩
abbrev Vc := Nat → Int
/-- alike round p -/
def Eqv (p : Int) (u v : Vc) : Prop := ∀ i, Cg p (u i) (v i)
theorem Eqv.refl {p : Int} {u : Vc} : Eqv p u u := fun _ => Cg.rfl'
theorem Eqv.symm {p : Int} {u v : Vc} (h : Eqv p u v) : Eqv p v u := fun i => (h i).symm
theorem Eqv.trans {p : Int} {u v w : Vc} (h : Eqv p u v) (k : Eqv p v w) : Eqv p u w := fun i => (h i).trans (k i)
/-- the lot of some rows: whatever sums of multiples make -/
inductive Lot (p : Int) (R : Vc → Prop) : Vc → Prop
  | zero : Lot p R fun _ => 0
  | add {u v : Vc} (c : Int) : Lot p R u → R v → Lot p R fun i => u i + c * v i
  | eqv {u v : Vc} : Lot p R u → Eqv p u v → Lot p R v
theorem Lot.of {p : Int} {R : Vc → Prop} {v : Vc} (h : R v) : Lot p R v := .eqv (.add 1 .zero h) fun i => ⟨0, by grind⟩
theorem Lot.comb {p : Int} {R : Vc → Prop} {u v : Vc} (c : Int) (h : Lot p R u) (k : Lot p R v) : Lot p R fun i => u i + c * v i := by
  induction k with
  | zero => exact .eqv h fun i => ⟨0, by grind⟩
  | add d _ r ih => exact .eqv (.add (c * d) ih r) fun i => ⟨0, by grind⟩
  | eqv _ e ih => exact .eqv ih fun i => Cg.rfl'.add (Cg.rfl'.mul (e i))
/-- a lot in another -/
theorem Lot.sub {p : Int} {R S : Vc → Prop} (h : ∀ v, R v → Lot p S v) {u : Vc} (k : Lot p R u) : Lot p S u := by
  induction k with
  | zero => exact .zero
  | add d _ r ih => exact Lot.comb d ih (h _ r)
  | eqv _ e ih => exact .eqv ih e
/-- leads: each place's row has 1 there and 0 at the other places -/
structure Leads (p : Int) (L : List (Nat × Vc)) : Prop where
  self : ∀ x ∈ L, Cg p (x.2 x.1) 1
  other : ∀ x ∈ L, ∀ y ∈ L, x.1 ≠ y.1 → Cg p (x.2 y.1) 0
def rowsOf (L : List (Nat × Vc)) : Vc → Prop := fun v => ∃ x ∈ L, x.2 = v
/-- the sum of the leads by a row's own numbers at their places -/
def own (u : Vc) : List (Nat × Vc) → Vc
  | [] => fun _ => 0
  | x :: L => fun i => u x.1 * x.2 i + own u L i
theorem own_lot {p : Int} {u : Vc} : ∀ (L : List (Nat × Vc)) {R : Vc → Prop}, (∀ x ∈ L, R x.2) → Lot p R (own u L)
  | [], _, _ => .zero
  | x :: L, _, h => .eqv (Lot.comb (u x.1) (own_lot (u := u) L fun y hy => h y (List.mem_cons_of_mem _ hy)) (Lot.of (h x (by simp)))) fun i => ⟨0, by simp only [own]; grind⟩
theorem own_comb {u v : Vc} {c : Int} : ∀ (L : List (Nat × Vc)) (i : Nat), own (fun j => u j + c * v j) L i = own u L i + c * own v L i
  | [], _ => by simp [own]
  | x :: L, i => by
    simp only [own]
    rw [own_comb L i]
    grind
theorem own_eqv {p : Int} {u v : Vc} (h : Eqv p u v) : ∀ L : List (Nat × Vc), Eqv p (own u L) (own v L)
  | [], _ => Cg.rfl'
  | x :: L, i => ((h x.1).mul Cg.rfl').add (own_eqv h L i)
theorem own_none {p : Int} {u : Vc} : ∀ {L : List (Nat × Vc)}, (∀ x ∈ L, Cg p (u x.1) 0) → Eqv p (own u L) fun _ => 0
  | [], _, _ => Cg.rfl'
  | x :: L, h, i => by
    have a := ((h x (by simp)).mul (Cg.rfl' (a := x.2 i))).add (own_none (L := L) (fun y hy => h y (List.mem_cons_of_mem _ hy)) i)
    have e : (0 : Int) * x.2 i + 0 = 0 := by simp
    rw [e] at a
    exact a
theorem own_lead {p : Int} {L : List (Nat × Vc)} (h : Leads p L) (nd : (L.map (·.1)).Nodup) {x : Nat × Vc} (hx : x ∈ L) : Eqv p (own x.2 L) x.2 := by
  induction L with
  | nil => cases hx
  | cons y L ih =>
    have nd' := List.nodup_cons.mp (by simpa using nd : (y.1 :: L.map (·.1)).Nodup)
    have hL : Leads p L := ⟨fun z hz => h.self z (List.mem_cons_of_mem _ hz), fun z hz w hw => h.other z (List.mem_cons_of_mem _ hz) w (List.mem_cons_of_mem _ hw)⟩
    intro i
    show Cg p (x.2 y.1 * y.2 i + own x.2 L i) (x.2 i)
    rcases List.mem_cons.mp hx with rfl | hx'
    · have a := (h.self x (by simp)).mul (Cg.rfl' (a := x.2 i))
      have b := own_none (p := p) (u := x.2) (L := L) (fun z hz => h.other x (by simp) z (List.mem_cons_of_mem _ hz) fun e => nd'.1 (by rw [e]; exact List.mem_map.mpr ⟨z, hz, rfl⟩)) i
      have c := a.add b
      have e : (1 : Int) * x.2 i + 0 = x.2 i := by simp
      rw [e] at c
      exact c
    · have ne : x.1 ≠ y.1 := fun e => nd'.1 (by rw [← e]; exact List.mem_map.mpr ⟨x, hx', rfl⟩)
      have a := (h.other x hx y (by simp) ne).mul (Cg.rfl' (a := y.2 i))
      have b := ih hL nd'.2 hx' i
      have c := a.add b
      have e : (0 : Int) * y.2 i + x.2 i = x.2 i := by simp
      rw [e] at c
      exact c
/-- a row is in the lot of the leads just where it is the sum by its own numbers -/
theorem lot_iff {p : Int} {L : List (Nat × Vc)} (h : Leads p L) (nd : (L.map (·.1)).Nodup) {u : Vc} : Lot p (rowsOf L) u ↔ Eqv p (own u L) u := by
  constructor
  · intro k
    induction k with
    | zero => exact own_none fun _ _ => Cg.rfl'
    | @add a v c _ r ih =>
      obtain ⟨x, hx, rfl⟩ := r
      intro i
      rw [own_comb]
      exact (ih i).add (Cg.rfl'.mul (own_lead h nd hx i))
    | eqv _ e ih => exact ((own_eqv e L).symm.trans ih).trans e
  · intro k
    exact .eqv (own_lot L fun x hx => ⟨x, hx, rfl⟩) k
/-- what is left of a row behind clearing -/
def left (u : Vc) (L : List (Nat × Vc)) : Vc := fun i => u i - own u L i
theorem own_at {p : Int} {L : List (Nat × Vc)} (h : Leads p L) (nd : (L.map (·.1)).Nodup) {u : Vc} {x : Nat × Vc} (hx : x ∈ L) : Cg p (own u L x.1) (u x.1) := by
  induction L with
  | nil => cases hx
  | cons y L ih =>
    have nd' := List.nodup_cons.mp (by simpa using nd : (y.1 :: L.map (·.1)).Nodup)
    have hL : Leads p L := ⟨fun z hz => h.self z (List.mem_cons_of_mem _ hz), fun z hz w hw => h.other z (List.mem_cons_of_mem _ hz) w (List.mem_cons_of_mem _ hw)⟩
    show Cg p (u y.1 * y.2 x.1 + own u L x.1) (u x.1)
    rcases List.mem_cons.mp hx with rfl | hx'
    · have far : ∀ M : List (Nat × Vc), (∀ z ∈ M, Cg p (z.2 x.1) 0) → Cg p (own u M x.1) 0 := by
        intro M hM
        induction M with
        | nil => exact Cg.rfl'
        | cons z M ihM =>
          have a := ((Cg.rfl' (a := u z.1)).mul (hM z (by simp))).add (ihM fun w hw => hM w (List.mem_cons_of_mem _ hw))
          have e : u z.1 * 0 + 0 = 0 := by simp
          rw [e] at a
          exact a
      have a := ((Cg.rfl' (a := u x.1)).mul (h.self x (by simp))).add (far L fun z hz => h.other z (List.mem_cons_of_mem _ hz) x (by simp) fun e => nd'.1 (by rw [← e]; exact List.mem_map.mpr ⟨z, hz, rfl⟩))
      have e : u x.1 * 1 + 0 = u x.1 := by simp
      rw [e] at a
      exact a
    · have ne : y.1 ≠ x.1 := fun e => nd'.1 (by rw [e]; exact List.mem_map.mpr ⟨x, hx', rfl⟩)
      have a := ((Cg.rfl' (a := u y.1)).mul (h.other y (by simp) x hx ne)).add (ih hL nd'.2 hx')
      have e : u y.1 * 0 + u x.1 = u x.1 := by simp
      rw [e] at a
      exact a
theorem left_at {p : Int} {L : List (Nat × Vc)} (h : Leads p L) (nd : (L.map (·.1)).Nodup) {u : Vc} {x : Nat × Vc} (hx : x ∈ L) : Cg p (left u L x.1) 0 := by
  have a := (Cg.rfl' (a := u x.1)).sub (own_at h nd (u := u) hx)
  have e : u x.1 - u x.1 = 0 := by omega
  rw [e] at a
  exact a
/-- a row is in the lot of the leads just where nothing is left of it -/
theorem lot_left {p : Int} {L : List (Nat × Vc)} (h : Leads p L) (nd : (L.map (·.1)).Nodup) {u : Vc} : Lot p (rowsOf L) u ↔ Eqv p (left u L) fun _ => 0 := by
  rw [lot_iff h nd]
  constructor
  · intro k i
    have a := (Cg.rfl' (a := u i)).sub (k i)
    have e : u i - u i = 0 := by omega
    rw [e] at a
    exact a
  · intro k i
    have a := (Cg.rfl' (a := u i)).sub (k i)
    have e : u i - left u L i = own u L i := by
      show u i - (u i - own u L i) = own u L i
      omega
    have e2 : u i - 0 = u i := by omega
    rw [e, e2] at a
    exact a
/-- one more lead at q -/
def more (q : Nat) (l : Vc) (L : List (Nat × Vc)) : List (Nat × Vc) := L.map fun x => (x.1, fun i => x.2 i - x.2 q * l i)
theorem more_places {q : Nat} {l : Vc} {L : List (Nat × Vc)} : (more q l L).map (·.1) = L.map (·.1) := by
  unfold more
  rw [List.map_map]
  rfl
theorem leads_more {p : Int} {L : List (Nat × Vc)} {q : Nat} {l : Vc} (h : Leads p L) (nd : (L.map (·.1)).Nodup) (h1 : Cg p (l q) 1) (h0 : ∀ x ∈ L, Cg p (l x.1) 0) (hq : ∀ x ∈ L, x.1 ≠ q) : Leads p (more q l L ++ [(q, l)]) := by
  have key : ∀ x ∈ L, ∀ y ∈ L, Cg p (x.2 y.1 - x.2 q * l y.1) (x.2 y.1) := fun x _ y hy => by
    have a := (Cg.rfl' (a := x.2 y.1)).sub ((Cg.rfl' (a := x.2 q)).mul (h0 y hy))
    have e : x.2 y.1 - x.2 q * 0 = x.2 y.1 := by simp
    rw [e] at a
    exact a
  have atq : ∀ x ∈ L, Cg p (x.2 q - x.2 q * l q) 0 := fun x _ => by
    have a := (Cg.rfl' (a := x.2 q)).sub ((Cg.rfl' (a := x.2 q)).mul h1)
    have e : x.2 q - x.2 q * 1 = 0 := by rw [Int.mul_one]; omega
    rw [e] at a
    exact a
  refine ⟨fun x hx => ?_, fun x hx y hy ne => ?_⟩
  · rcases List.mem_append.mp hx with hx | hx
    · obtain ⟨z, hz, rfl⟩ := List.mem_map.mp hx
      exact (key z hz z hz).trans (h.self z hz)
    · rw [List.mem_singleton.mp hx]
      exact h1
  · rcases List.mem_append.mp hx with hx | hx
    · obtain ⟨z, hz, rfl⟩ := List.mem_map.mp hx
      rcases List.mem_append.mp hy with hy | hy
      · obtain ⟨w, hw, rfl⟩ := List.mem_map.mp hy
        exact (key z hz w hw).trans (h.other z hz w hw ne)
      · rw [List.mem_singleton.mp hy]
        exact atq z hz
    · rw [List.mem_singleton.mp hx] at ne ⊢
      rcases List.mem_append.mp hy with hy | hy
      · obtain ⟨w, hw, rfl⟩ := List.mem_map.mp hy
        exact h0 w hw
      · rw [List.mem_singleton.mp hy] at ne
        exact absurd rfl ne
/-- the lot with a new lead is that of the old leads and the row out of which it was made -/
theorem lot_more {p c d : Int} {L : List (Nat × Vc)} {q : Nat} {f l : Vc} (hl : Eqv p l fun i => c * left f L i) (hd : Cg p (d * c) 1) {u : Vc} : Lot p (rowsOf (more q l L ++ [(q, l)])) u ↔ Lot p (fun v => rowsOf L v ∨ v = f) u := by
  have lIn : Lot p (fun v => rowsOf L v ∨ v = f) l := by
    have a : Lot p (fun v => rowsOf L v ∨ v = f) (own f L) := own_lot L fun x hx => .inl ⟨x, hx, rfl⟩
    have b : Lot p (fun v => rowsOf L v ∨ v = f) f := Lot.of (.inr rfl)
    have e := Lot.comb c Lot.zero (Lot.comb (-1) b a)
    exact .eqv e fun i => Cg.trans ⟨0, by simp only [left]; grind⟩ (hl i).symm
  have newl : Lot p (rowsOf (more q l L ++ [(q, l)])) l := Lot.of ⟨(q, l), by simp, rfl⟩
  have old : ∀ x ∈ L, Lot p (rowsOf (more q l L ++ [(q, l)])) x.2 := fun x hx => by
    have a : Lot p (rowsOf (more q l L ++ [(q, l)])) (fun i => x.2 i - x.2 q * l i) := Lot.of ⟨(x.1, fun i => x.2 i - x.2 q * l i), List.mem_append.mpr (.inl (List.mem_map.mpr ⟨x, hx, rfl⟩)), rfl⟩
    exact .eqv (Lot.comb (x.2 q) a newl) fun i => ⟨0, by grind⟩
  constructor
  · refine Lot.sub fun v hv => ?_
    obtain ⟨x, hx, rfl⟩ := hv
    rcases List.mem_append.mp hx with hx | hx
    · obtain ⟨z, hz, rfl⟩ := List.mem_map.mp hx
      exact .eqv (Lot.comb (-(z.2 q)) (Lot.of (.inl ⟨z, hz, rfl⟩)) lIn) fun i => ⟨0, by grind⟩
    · rw [List.mem_singleton.mp hx]
      exact lIn
  · refine Lot.sub fun v hv => ?_
    rcases hv with ⟨x, hx, rfl⟩ | rfl
    · exact old x hx
    · have a : Lot p (rowsOf (more q l L ++ [(q, l)])) (own v L) := Lot.sub (R := rowsOf L) (fun w ⟨x, hx, e⟩ => e ▸ old x hx) (own_lot L fun x hx => ⟨x, hx, rfl⟩)
      refine .eqv (Lot.comb d a newl) fun i => ?_
      have e1 := (Cg.rfl' (p := p) (a := own v L i)).add ((Cg.rfl' (a := d)).mul (hl i))
      have e2 := (Cg.rfl' (p := p) (a := own v L i)).add (hd.mul (Cg.rfl' (a := left v L i)))
      have e3 : own v L i + d * (c * left v L i) = own v L i + d * c * left v L i := by grind
      have e4 : own v L i + 1 * left v L i = v i := by simp only [left]; grind
      rw [e3] at e1
      rw [e4] at e2
      exact e1.trans e2
/-- clearing, one lead behind another -/
def clear (u : Vc) : List (Nat × Vc) → Vc
  | [] => u
  | x :: L => clear (fun i => u i - u x.1 * x.2 i) L
theorem clear_eqv {p : Int} : ∀ (L : List (Nat × Vc)) {u v : Vc}, Eqv p u v → Eqv p (clear u L) (clear v L)
  | [], _, _, h => h
  | x :: L, _, _, h => clear_eqv L fun i => (h i).sub ((h x.1).mul Cg.rfl')
theorem clear_left {p : Int} : ∀ {L : List (Nat × Vc)} {u : Vc}, Leads p L → (L.map (·.1)).Nodup → Eqv p (clear u L) (left u L)
  | [], u, _, _ => fun i => ⟨0, by simp [clear, left, own]⟩
  | x :: L, u, h, nd => by
    have nd' := List.nodup_cons.mp (by simpa using nd : (x.1 :: L.map (·.1)).Nodup)
    have hL : Leads p L := ⟨fun z hz => h.self z (List.mem_cons_of_mem _ hz), fun z hz w hw => h.other z (List.mem_cons_of_mem _ hz) w (List.mem_cons_of_mem _ hw)⟩
    intro i
    have ih := clear_left (u := fun i => u i - u x.1 * x.2 i) hL nd'.2 i
    have e1 : own (fun j => u j - u x.1 * x.2 j) L i = own u L i - u x.1 * own x.2 L i := by
      have z := own_comb (u := u) (v := x.2) (c := -(u x.1)) L i
      have z2 : (fun j => u j + -(u x.1) * x.2 j) = fun j => u j - u x.1 * x.2 j := by
        funext j
        grind
      rw [z2] at z
      rw [z]
      grind
    have z : Cg p (own x.2 L i) 0 := own_none (fun y hy => h.other x (by simp) y (List.mem_cons_of_mem _ hy) fun e => nd'.1 (by rw [e]; exact List.mem_map.mpr ⟨y, hy, rfl⟩)) i
    have a : Cg p (u i - u x.1 * x.2 i - (own u L i - u x.1 * own x.2 L i)) (u i - u x.1 * x.2 i - (own u L i - u x.1 * 0)) := Cg.rfl'.sub (Cg.rfl'.sub (Cg.rfl'.mul z))
    have e2 : left (fun i => u i - u x.1 * x.2 i) L i = u i - u x.1 * x.2 i - (own u L i - u x.1 * own x.2 L i) := by
      show u i - u x.1 * x.2 i - own (fun j => u j - u x.1 * x.2 j) L i = _
      rw [e1]
    have e3 : left u (x :: L) i = u i - u x.1 * x.2 i - (own u L i - u x.1 * 0) := by
      show u i - (u x.1 * x.2 i + own u L i) = _
      grind
    show Cg p (clear (fun i => u i - u x.1 * x.2 i) L i) (left u (x :: L) i)
    rw [e3]
    rw [e2] at ih
    exact ih.trans a
/-- nothing stands ahead of a lead's place -/
def Ahead (p : Int) (L : List (Nat × Vc)) : Prop := ∀ x ∈ L, ∀ i, i < x.1 → Cg p (x.2 i) 0
theorem own_zero {p : Int} {u : Vc} {i : Nat} : ∀ {L : List (Nat × Vc)}, (∀ y ∈ L, Cg p (u y.1) 0 ∨ Cg p (y.2 i) 0) → Cg p (own u L i) 0
  | [], _ => Cg.rfl'
  | y :: L, h => by
    have b := own_zero (L := L) fun z hz => h z (List.mem_cons_of_mem _ hz)
    show Cg p (u y.1 * y.2 i + own u L i) 0
    have e0 : (0 : Int) + 0 = 0 := rfl
    rw [← e0]
    refine Cg.add ?_ b
    rcases h y (by simp) with k | k
    · have a := k.mul (Cg.rfl' (a := y.2 i))
      rw [Int.zero_mul] at a
      exact a
    · have a := (Cg.rfl' (a := u y.1)).mul k
      rw [Int.mul_zero] at a
      exact a
theorem one_zero {p : Int} (h : 1 < p) : ¬ Cg p 1 0 := by
  rintro ⟨c, e⟩
  have e2 : (1 : Int) = p * c := by omega
  have d : p ∣ 1 := ⟨c, e2⟩
  have := Int.le_of_dvd (by decide) d
  omega
theorem place_in {p : Int} {L M : List (Nat × Vc)} (h1 : 1 < p) (hL : Leads p L) (aL : Ahead p L) (hM : Leads p M) (aM : Ahead p M) (ndM : (M.map (·.1)).Nodup) (sub : ∀ x ∈ L, Lot p (rowsOf M) x.2) {x : Nat × Vc} (hx : x ∈ L) : ∃ y ∈ M, y.1 = x.1 := by
  refine Classical.byContradiction fun no => ?_
  have k := (lot_iff hM ndM).mp (sub x hx) x.1
  have z : Cg p (own x.2 M x.1) 0 := own_zero fun y hy => by
    rcases Nat.lt_trichotomy y.1 x.1 with l | l | l
    · exact .inl (aL x hx y.1 l)
    · exact absurd ⟨y, hy, l⟩ no
    · exact .inr (aM y hy x.1 l)
  exact one_zero h1 (((hL.self x hx).symm.trans k.symm).trans z)
/-- plain sets of one lot have the same rows at the same places -/
theorem plain_same {p : Int} {L M : List (Nat × Vc)} (h1 : 1 < p) (hL : Leads p L) (aL : Ahead p L) (ndL : (L.map (·.1)).Nodup) (hM : Leads p M) (aM : Ahead p M) (ndM : (M.map (·.1)).Nodup) (sub : ∀ x ∈ L, Lot p (rowsOf M) x.2) (sup : ∀ y ∈ M, Lot p (rowsOf L) y.2)
    {x y : Nat × Vc} (hx : x ∈ L) (hy : y ∈ M) (e : y.1 = x.1) : Eqv p x.2 y.2 := by
  have k := (lot_iff hM ndM).mp (sub x hx)
  have k2 := own_lead hM ndM hy
  refine fun i => ((k i).symm.trans ?_).trans (k2 i)
  have d : ∀ z ∈ M, Cg p (x.2 z.1 - y.2 z.1) 0 := fun z hz => by
    by_cases e2 : z.1 = x.1
    · have a := (hL.self x hx).sub (hM.self y hy)
      rw [e2]
      rw [e] at a
      exact a
    · obtain ⟨w, hw, ew⟩ := place_in h1 hM aM hL aL ndL sup hz
      have a := (hL.other x hx w hw fun q => e2 (by rw [← ew, q])).sub (hM.other y hy z hz fun q => e2 (by rw [← q, e]))
      rw [ew] at a
      exact a
  have o := own_none (u := fun j => x.2 j - y.2 j) d i
  have e3 : own (fun j => x.2 j - y.2 j) M i = own x.2 M i - own y.2 M i := by
    have z := own_comb (u := x.2) (v := y.2) (c := -1) M i
    have z2 : (fun j => x.2 j + -1 * y.2 j) = fun j => x.2 j - y.2 j := by
      funext j
      grind
    rw [z2] at z
    rw [z]
    grind
  have o2 : Cg p (own x.2 M i - own y.2 M i) 0 := by
    rw [← e3]
    exact o
  have a := o2.add (Cg.rfl' (a := own y.2 M i))
  have e4 : own x.2 M i - own y.2 M i + own y.2 M i = own x.2 M i := by omega
  rw [e4, Int.zero_add] at a
  exact a
/-! ### lists of numbers as such rows -/
def vec (us : List Int) : Vc := fun i => us.getD i 0
def vecs (L : List (Nat × List Int)) : List (Nat × Vc) := L.map fun x => (x.1, vec x.2)
def Rg (p : Int) (us : List Int) : Prop := ∀ u ∈ us, 0 ≤ u ∧ u < p
theorem vec_some {us : List Int} {i : Nat} {u : Int} (h : us[i]? = some u) : vec us i = u := by
  show us.getD i 0 = u
  rw [List.getD_eq_getElem?_getD, h]
  rfl
theorem vec_out {us : List Int} {i : Nat} (h : us.length ≤ i) : vec us i = 0 := by
  show us.getD i 0 = 0
  rw [List.getD_eq_getElem?_getD, List.getElem?_eq_none h]
  rfl
theorem Rg.vec {p : Int} {us : List Int} (p0 : 0 < p) (h : Rg p us) (i : Nat) : 0 ≤ vec us i ∧ vec us i < p := by
  by_cases hi : i < us.length
  · rw [vec_some (List.getElem?_eq_getElem hi)]
    exact h _ (List.getElem_mem hi)
  · rw [vec_out (by omega)]
    omega
theorem cg_eq {p a b : Int} (ha : 0 ≤ a ∧ a < p) (hb : 0 ≤ b ∧ b < p) (h : Cg p a b) : a = b := by
  obtain ⟨c, rfl⟩ := h
  have e : (b + p * c) % p = b % p := Int.add_mul_emod_self_left b p c
  rw [Int.emod_eq_of_lt ha.1 ha.2, Int.emod_eq_of_lt hb.1 hb.2] at e
  exact e
theorem list_eq {p : Int} {us vs : List Int} (p0 : 0 < p) (hl : us.length = vs.length) (hu : Rg p us) (hv : Rg p vs) (e : Eqv p (vec us) (vec vs)) : us = vs := by
  apply List.ext_getElem hl
  intro i h1 h2
  have a := cg_eq (hu.vec p0 i) (hv.vec p0 i) (e i)
  rw [vec_some (List.getElem?_eq_getElem h1), vec_some (List.getElem?_eq_getElem h2)] at a
  exact a
theorem zero_iff {p : Int} {us : List Int} (p0 : 0 < p) (hu : Rg p us) : (∀ x ∈ us, x = 0) ↔ Eqv p (vec us) fun _ => 0 := by
  constructor
  · intro h i
    by_cases hi : i < us.length
    · rw [vec_some (List.getElem?_eq_getElem hi), h _ (List.getElem_mem hi)]
      exact Cg.rfl'
    · rw [vec_out (by omega)]
      exact Cg.rfl'
  · intro h x hx
    obtain ⟨i, hi, rfl⟩ := List.mem_iff_getElem.mp hx
    have a := cg_eq (hu.vec p0 i) ⟨by decide, p0⟩ (h i)
    rw [vec_some (List.getElem?_eq_getElem hi)] at a
    exact a
def lessZ (p n : Int) (us vs : List Int) : List Int := List.zipWith (fun x y => (x - n * y) % p) us vs
def lessL (p : Int) (us : List Int) (n : Int) (vs : List Int) : List Int := if n = 0 then us else lessZ p n us vs
theorem less_len {p n : Int} {us vs : List Int} (h : us.length = vs.length) : (lessL p us n vs).length = us.length := by
  unfold lessL
  split
  · rfl
  · unfold lessZ
    rw [List.length_zipWith]
    omega
theorem less_rg {p n : Int} {us vs : List Int} (p0 : 0 < p) (h : Rg p us) : Rg p (lessL p us n vs) := by
  unfold lessL
  split
  · exact h
  · intro u hu
    unfold lessZ at hu
    obtain ⟨i, hi, rfl⟩ := List.mem_iff_getElem.mp hu
    rw [List.getElem_zipWith]
    exact ⟨Int.emod_nonneg _ (by omega), Int.emod_lt_of_pos _ p0⟩
theorem vec_less {p n : Int} {us vs : List Int} (h : us.length = vs.length) : Eqv p (vec (lessL p us n vs)) fun i => vec us i - n * vec vs i := by
  intro i
  show Cg p (vec (lessL p us n vs) i) (vec us i - n * vec vs i)
  unfold lessL
  split
  · rename_i e
    rw [e]
    exact ⟨0, by simp⟩
  · by_cases hi : i < us.length
    · have h2 : i < vs.length := by omega
      rw [vec_some (us := us) (List.getElem?_eq_getElem hi), vec_some (us := vs) (List.getElem?_eq_getElem h2)]
      have e : (lessZ p n us vs)[i]? = some ((us[i] - n * vs[i]) % p) := by
        unfold lessZ
        rw [List.getElem?_zipWith, List.getElem?_eq_getElem hi, List.getElem?_eq_getElem h2]
      rw [vec_some e]
      exact Cg.mod _
    · have e : (lessZ p n us vs).length ≤ i := by
        unfold lessZ
        rw [List.length_zipWith]
        omega
      rw [vec_out e, vec_out (us := us) (by omega), vec_out (us := vs) (by omega)]
      exact ⟨0, by simp⟩
def clearL (p : Int) (us : List Int) : List (Nat × List Int) → List Int
  | [] => us
  | x :: L => clearL p (lessL p us (us.getD x.1 0) x.2) L
theorem clear_snoc {p : Int} {x : Nat × List Int} : ∀ (L : List (Nat × List Int)) (us : List Int), clearL p us (L ++ [x]) = lessL p (clearL p us L) ((clearL p us L).getD x.1 0) x.2
  | [], _ => rfl
  | y :: L, us => clear_snoc L _
theorem clear_len {p : Int} {n : Nat} : ∀ (L : List (Nat × List Int)) {us : List Int}, (∀ x ∈ L, x.2.length = n) → us.length = n → (clearL p us L).length = n
  | [], _, _, h => h
  | x :: L, us, hL, h => clear_len L (fun y hy => hL y (List.mem_cons_of_mem _ hy)) (by rw [less_len (by rw [h, hL x (by simp)])]; exact h)
theorem clear_rg {p : Int} (p0 : 0 < p) : ∀ (L : List (Nat × List Int)) {us : List Int}, Rg p us → Rg p (clearL p us L)
  | [], _, h => h
  | _ :: L, _, h => clear_rg p0 L (less_rg p0 h)
theorem vec_clear {p : Int} {n : Nat} : ∀ (L : List (Nat × List Int)) {us : List Int}, (∀ x ∈ L, x.2.length = n) → us.length = n → Eqv p (vec (clearL p us L)) (clear (vec us) (vecs L))
  | [], _, _, _ => Eqv.refl
  | x :: L, us, hL, h => by
    have e : us.length = x.2.length := by rw [h, hL x (by simp)]
    refine (vec_clear L (fun y hy => hL y (List.mem_cons_of_mem _ hy)) (by rw [less_len e]; exact h)).trans ?_
    exact clear_eqv _ (vec_less e)
/-- the rows that a list of lists of numbers spans -/
def spn (fs : List (List Int)) : Vc → Prop := fun v => ∃ f ∈ fs, vec f = v
structure PL (p : Int) (n : Nat) (fs : List (List Int)) (L : List (Nat × List Int)) : Prop where
  len : ∀ x ∈ L, x.2.length = n
  rg : ∀ x ∈ L, Rg p x.2
  plc : ∀ x ∈ L, x.1 < n
  nd : (L.map (·.1)).Nodup
  leads : Leads p (vecs L)
  ahead : Ahead p (vecs L)
  lot : ∀ u, Lot p (rowsOf (vecs L)) u ↔ Lot p (spn fs) u
theorem vecs_places {L : List (Nat × List Int)} : (vecs L).map (·.1) = L.map (·.1) := by
  unfold vecs
  rw [List.map_map]
  rfl
theorem mem_vecs {L : List (Nat × List Int)} {y : Nat × Vc} : y ∈ vecs L ↔ ∃ x ∈ L, (x.1, vec x.2) = y := List.mem_map
theorem PL.ndv {p : Int} {n : Nat} {fs : List (List Int)} {L : List (Nat × List Int)} (h : PL p n fs L) : ((vecs L).map (·.1)).Nodup := by
  rw [vecs_places]
  exact h.nd
theorem PL.nil {p : Int} {n : Nat} : PL p n [] [] := by
  refine ⟨fun x hx => by simp at hx, fun x hx => by simp at hx, fun x hx => by simp at hx, by simp, ⟨fun x hx => by simp [vecs] at hx, fun x hx => by simp [vecs] at hx⟩, fun x hx => by simp [vecs] at hx, fun u => ?_⟩
  have e : (rowsOf (vecs [])) = spn [] := by
    funext v
    simp [rowsOf, vecs, spn]
  rw [e]
theorem Lot.iff {p : Int} {R S : Vc → Prop} (h1 : ∀ v, R v → Lot p S v) (h2 : ∀ v, S v → Lot p R v) (u : Vc) : Lot p R u ↔ Lot p S u := ⟨Lot.sub h1, Lot.sub h2⟩
theorem PL.zero {p : Int} {n : Nat} {fs : List (List Int)} {L : List (Nat × List Int)} (p0 : 0 < p) (h : PL p n fs L) {f : List Int} (hl : f.length = n) (hr : Rg p f) : (∀ x ∈ clearL p f L, x = 0) ↔ Lot p (spn fs) (vec f) := by
  rw [zero_iff p0 (clear_rg p0 L hr), ← h.lot, lot_left h.leads h.ndv]
  have a := vec_clear (p := p) L h.len hl
  have b := clear_left (u := vec f) h.leads h.ndv
  exact ⟨fun k => (b.symm.trans a.symm).trans k, fun k => (a.trans b).trans k⟩
theorem spn_snoc {fs : List (List Int)} {f : List Int} {v : Vc} : spn (fs ++ [f]) v ↔ spn fs v ∨ v = vec f := by
  constructor
  · rintro ⟨g, hg, rfl⟩
    rcases List.mem_append.mp hg with hg | hg
    · exact .inl ⟨g, hg, rfl⟩
    · rw [List.mem_singleton.mp hg]
      exact .inr rfl
  · rintro (⟨g, hg, rfl⟩ | rfl)
    · exact ⟨g, by simp [hg], rfl⟩
    · exact ⟨f, by simp, rfl⟩
theorem PL.skip {p : Int} {n : Nat} {fs : List (List Int)} {L : List (Nat × List Int)} (p0 : 0 < p) (h : PL p n fs L) {f : List Int} (hl : f.length = n) (hr : Rg p f) (z : ∀ x ∈ clearL p f L, x = 0) : PL p n (fs ++ [f]) L := by
  refine ⟨h.len, h.rg, h.plc, h.nd, h.leads, h.ahead, fun u => (h.lot u).trans ?_⟩
  have k := (h.zero p0 hl hr).mp z
  refine Lot.iff (fun v hv => Lot.of (spn_snoc.mpr (.inl hv))) (fun v hv => ?_) u
  rcases spn_snoc.mp hv with hv | rfl
  · exact Lot.of hv
  · exact k
def moreL (p : Int) (q : Nat) (l : List Int) (L : List (Nat × List Int)) : List (Nat × List Int) := L.map fun x => (x.1, lessL p x.2 (x.2.getD q 0) l)
def scaled (p c : Int) (us : List Int) : List Int := us.map fun x => c * x % p
theorem vec_scaled {p c : Int} {us : List Int} : Eqv p (vec (scaled p c us)) fun i => c * vec us i := by
  intro i
  show Cg p (vec (scaled p c us) i) (c * vec us i)
  by_cases hi : i < us.length
  · have e : (scaled p c us)[i]? = some (c * us[i] % p) := by
      unfold scaled
      rw [List.getElem?_map, List.getElem?_eq_getElem hi]
      rfl
    rw [vec_some e, vec_some (List.getElem?_eq_getElem hi)]
    exact Cg.mod _
  · rw [vec_out (us := us) (by omega), vec_out (by unfold scaled; rw [List.length_map]; omega)]
    exact ⟨0, by simp⟩
theorem scaled_rg {p c : Int} {us : List Int} (p0 : 0 < p) : Rg p (scaled p c us) := by
  intro u hu
  obtain ⟨x, _, rfl⟩ := List.mem_map.mp hu
  exact ⟨Int.emod_nonneg _ (by omega), Int.emod_lt_of_pos _ p0⟩
/-- leads that are alike round p -/
theorem Leads.eqv {p : Int} {L M : List (Nat × Vc)} (h : Leads p L) (e : ∀ y ∈ M, ∃ x ∈ L, x.1 = y.1 ∧ Eqv p x.2 y.2) : Leads p M := by
  refine ⟨fun y hy => ?_, fun y hy z hz ne => ?_⟩
  · obtain ⟨x, hx, e1, e2⟩ := e y hy
    have a := h.self x hx
    rw [← e1]
    exact (e2 x.1).symm.trans a
  · obtain ⟨x, hx, e1, e2⟩ := e y hy
    obtain ⟨w, hw, e3, _⟩ := e z hz
    rw [← e1, ← e3] at ne
    have a := h.other x hx w hw ne
    rw [← e3]
    exact (e2 w.1).symm.trans a
theorem rows_eqv {p : Int} {L M : List (Nat × Vc)} (e : ∀ y ∈ M, ∃ x ∈ L, x.1 = y.1 ∧ Eqv p x.2 y.2) {v : Vc} (hv : rowsOf M v) : Lot p (rowsOf L) v := by
  obtain ⟨y, hy, rfl⟩ := hv
  obtain ⟨x, hx, _, e2⟩ := e y hy
  exact .eqv (Lot.of ⟨x, hx, rfl⟩) e2
theorem PL.step {p : Int} {n : Nat} {fs : List (List Int)} {L : List (Nat × List Int)} (p1 : 1 < p) (h : PL p n fs L) {f : List Int} (hl : f.length = n) (hr : Rg p f) {q : Nat} {u c : Int} (hu : (clearL p f L)[q]? = some u) (u0 : u ≠ 0) (ah : ∀ j, j < q → (clearL p f L)[j]? = some 0) (hc : c * u % p = 1) :
    PL p n (fs ++ [f]) (moreL p q (scaled p c (clearL p f L)) L ++ [(q, scaled p c (clearL p f L))]) := by
  have p0 : 0 < p := by omega
  have cl := clear_len (p := p) L h.len hl
  have cr := clear_rg p0 L hr
  have hq : q < n := by
    have := (List.getElem?_eq_some_iff.mp hu).1
    omega
  have sl : (scaled p c (clearL p f L)).length = n := by
    unfold scaled
    rw [List.length_map]
    exact cl
  have el : Eqv p (vec (clearL p f L)) (left (vec f) (vecs L)) := (vec_clear L h.len hl).trans (clear_left h.leads h.ndv)
  have lz : Eqv p (vec (scaled p c (clearL p f L))) fun i => c * left (vec f) (vecs L) i := fun i => (vec_scaled i).trans (Cg.rfl'.mul (el i))
  have ur : 0 ≤ u ∧ u < p := cr u (List.mem_of_getElem? hu)
  have vu : vec (clearL p f L) q = u := vec_some hu
  have h1 : Cg p (vec (scaled p c (clearL p f L)) q) 1 := by
    have a : Cg p (vec (scaled p c (clearL p f L)) q) (c * vec (clearL p f L) q) := vec_scaled q
    rw [vu] at a
    refine a.trans ?_
    have b := Cg.mod (p := p) (c * u)
    rw [hc] at b
    exact b.symm
  have h0 : ∀ x ∈ vecs L, Cg p (vec (scaled p c (clearL p f L)) x.1) 0 := fun x hx => by
    have a := (lz x.1).trans (Cg.rfl'.mul (left_at h.leads h.ndv hx))
    rw [Int.mul_zero] at a
    exact a
  have hne : ∀ x ∈ vecs L, x.1 ≠ q := fun x hx e => by
    have a := h0 x hx
    rw [e] at a
    exact one_zero p1 (h1.symm.trans a)
  have ld := leads_more h.leads h.ndv h1 h0 hne
  have al : ∀ y ∈ vecs (moreL p q (scaled p c (clearL p f L)) L ++ [(q, scaled p c (clearL p f L))]), ∃ x ∈ more q (vec (scaled p c (clearL p f L))) (vecs L) ++ [(q, vec (scaled p c (clearL p f L)))], x.1 = y.1 ∧ Eqv p x.2 y.2 := by
    intro y hy
    obtain ⟨z, hz, rfl⟩ := mem_vecs.mp hy
    rcases List.mem_append.mp hz with hz | hz
    · obtain ⟨x, hx, rfl⟩ := List.mem_map.mp hz
      refine ⟨(x.1, fun i => vec x.2 i - vec x.2 q * vec (scaled p c (clearL p f L)) i), List.mem_append.mpr (.inl (List.mem_map.mpr ⟨(x.1, vec x.2), mem_vecs.mpr ⟨x, hx, rfl⟩, rfl⟩)), rfl, ?_⟩
      exact (vec_less (by rw [sl, h.len x hx])).symm
    · rw [List.mem_singleton.mp hz]
      exact ⟨_, List.mem_append.mpr (.inr (List.mem_singleton.mpr rfl)), rfl, Eqv.refl⟩
  have al2 : ∀ x ∈ more q (vec (scaled p c (clearL p f L))) (vecs L) ++ [(q, vec (scaled p c (clearL p f L)))], ∃ y ∈ vecs (moreL p q (scaled p c (clearL p f L)) L ++ [(q, scaled p c (clearL p f L))]), y.1 = x.1 ∧ Eqv p y.2 x.2 := by
    intro x hx
    rcases List.mem_append.mp hx with hx | hx
    · obtain ⟨z, hz, rfl⟩ := List.mem_map.mp hx
      obtain ⟨y, hy, rfl⟩ := mem_vecs.mp hz
      refine ⟨_, mem_vecs.mpr ⟨(y.1, lessL p y.2 (y.2.getD q 0) (scaled p c (clearL p f L))), List.mem_append.mpr (.inl (List.mem_map.mpr ⟨y, hy, rfl⟩)), rfl⟩, rfl, ?_⟩
      exact vec_less (by rw [sl, h.len y hy])
    · rw [List.mem_singleton.mp hx]
      exact ⟨_, mem_vecs.mpr ⟨_, List.mem_append.mpr (.inr (List.mem_singleton.mpr rfl)), rfl⟩, rfl, Eqv.refl⟩
  refine ⟨fun x hx => ?_, fun x hx => ?_, fun x hx => ?_, ?_, ld.eqv al, ?_, fun v => ?_⟩
  · rcases List.mem_append.mp hx with hx | hx
    · obtain ⟨y, hy, rfl⟩ := List.mem_map.mp hx
      show (lessL p y.2 (y.2.getD q 0) (scaled p c (clearL p f L))).length = n
      rw [less_len (by rw [sl, h.len y hy])]
      exact h.len y hy
    · rw [List.mem_singleton.mp hx]
      exact sl
  · rcases List.mem_append.mp hx with hx | hx
    · obtain ⟨y, hy, rfl⟩ := List.mem_map.mp hx
      exact less_rg p0 (h.rg y hy)
    · rw [List.mem_singleton.mp hx]
      exact scaled_rg p0
  · rcases List.mem_append.mp hx with hx | hx
    · obtain ⟨y, hy, rfl⟩ := List.mem_map.mp hx
      exact h.plc y hy
    · rw [List.mem_singleton.mp hx]
      exact hq
  · rw [List.map_append]
    have e : (moreL p q (scaled p c (clearL p f L)) L).map (·.1) = L.map (·.1) := by
      unfold moreL
      rw [List.map_map]
      rfl
    rw [e]
    refine List.nodup_append.mpr ⟨h.nd, by simp, fun a ha b hb => ?_⟩
    obtain ⟨x, hx, rfl⟩ := List.mem_map.mp ha
    have hb' : b = q := by simpa using hb
    rw [hb']
    exact hne (x.1, vec x.2) (mem_vecs.mpr ⟨x, hx, rfl⟩)
  · intro y hy i hi
    obtain ⟨x, hx, e1, e2⟩ := al y hy
    refine (e2 i).symm.trans ?_
    rw [← e1] at hi
    have la : ∀ j, j < q → Cg p (vec (scaled p c (clearL p f L)) j) 0 := fun j hj => by
      have a : Cg p (vec (scaled p c (clearL p f L)) j) (c * vec (clearL p f L) j) := vec_scaled j
      rw [vec_some (ah j hj), Int.mul_zero] at a
      exact a
    rcases List.mem_append.mp hx with hx | hx
    · obtain ⟨z, hz, rfl⟩ := List.mem_map.mp hx
      show Cg p (z.2 i - z.2 q * vec (scaled p c (clearL p f L)) i) 0
      have hi : i < z.1 := hi
      have a := h.ahead z hz i hi
      have b : Cg p (z.2 q * vec (scaled p c (clearL p f L)) i) 0 := by
        by_cases hh : q < z.1
        · have b := (h.ahead z hz q hh).mul (Cg.rfl' (a := vec (scaled p c (clearL p f L)) i))
          rw [Int.zero_mul] at b
          exact b
        · have b := (Cg.rfl' (a := z.2 q)).mul (la i (by omega))
          rw [Int.mul_zero] at b
          exact b
      exact a.sub b
    · rw [List.mem_singleton.mp hx] at hi ⊢
      exact la i hi
  · have k := lot_more (q := q) (f := vec f) (L := vecs L) (c := c) (d := u) lz (by
      have b := Cg.mod (p := p) (c * u)
      rw [hc] at b
      rw [Int.mul_comm]
      exact b.symm) (u := v)
    have k1 : Lot p (rowsOf (vecs (moreL p q (scaled p c (clearL p f L)) L ++ [(q, scaled p c (clearL p f L))]))) v ↔ Lot p (rowsOf (more q (vec (scaled p c (clearL p f L))) (vecs L) ++ [(q, vec (scaled p c (clearL p f L)))])) v := Lot.iff (fun w hw => rows_eqv al hw) (fun w hw => rows_eqv al2 hw) v
    refine (k1.trans k).trans (Lot.iff (fun w hw => ?_) (fun w hw => ?_) v)
    · rcases hw with hw | rfl
      · exact Lot.sub (fun x hx => Lot.of (spn_snoc.mpr (.inl hx))) ((h.lot w).mp (Lot.of hw))
      · exact Lot.of (spn_snoc.mpr (.inr rfl))
    · rcases spn_snoc.mp hw with hw | rfl
      · exact Lot.sub (fun x hx => Lot.of (.inl hx)) ((h.lot w).mpr (Lot.of hw))
      · exact Lot.of (.inr rfl)
theorem PL.perm {p : Int} {n : Nat} {fs : List (List Int)} {L M : List (Nat × List Int)} (h : PL p n fs L) (e : L.Perm M) : PL p n fs M := by
  have ev : (vecs L).Perm (vecs M) := e.map _
  refine ⟨fun x hx => h.len x (e.mem_iff.mpr hx), fun x hx => h.rg x (e.mem_iff.mpr hx), fun x hx => h.plc x (e.mem_iff.mpr hx), (e.map (·.1)).nodup_iff.mp h.nd, ⟨fun x hx => h.leads.self x (ev.mem_iff.mpr hx), fun x hx y hy => h.leads.other x (ev.mem_iff.mpr hx) y (ev.mem_iff.mpr hy)⟩, fun x hx => h.ahead x (ev.mem_iff.mpr hx), fun u => ?_⟩
  rw [← h.lot]
  have e2 : rowsOf (vecs M) = rowsOf (vecs L) := by
    funext v
    apply propext
    exact ⟨fun ⟨x, hx, e⟩ => ⟨x, ev.mem_iff.mpr hx, e⟩, fun ⟨x, hx, e⟩ => ⟨x, ev.mem_iff.mp hx, e⟩⟩
  rw [e2]
/-- rising places -/
def Up (L : List (Nat × List Int)) : Prop := (L.map (·.1)).Pairwise (· < ·)
theorem up_ext : ∀ {xs ys : List Nat}, xs.Pairwise (· < ·) → ys.Pairwise (· < ·) → (∀ a, a ∈ xs ↔ a ∈ ys) → xs = ys
  | [], [], _, _, _ => rfl
  | [], y :: ys, _, _, h => by have := (h y).mpr (by simp); simp at this
  | x :: xs, [], _, _, h => by have := (h x).mp (by simp); simp at this
  | x :: xs, y :: ys, hx, hy, h => by
    have hx' := List.pairwise_cons.mp hx
    have hy' := List.pairwise_cons.mp hy
    have e : x = y := by
      rcases List.mem_cons.mp ((h x).mp (by simp)) with e | e
      · exact e
      · rcases List.mem_cons.mp ((h y).mpr (by simp)) with e2 | e2
        · exact e2.symm
        · have := hx'.1 y e2
          have := hy'.1 x e
          omega
    subst e
    rw [up_ext hx'.2 hy'.2 fun a => ?_]
    constructor
    · intro ha
      rcases List.mem_cons.mp ((h a).mp (List.mem_cons_of_mem _ ha)) with e | e
      · have := hx'.1 a ha
        omega
      · exact e
    · intro ha
      rcases List.mem_cons.mp ((h a).mpr (List.mem_cons_of_mem _ ha)) with e | e
      · have := hy'.1 a ha
        omega
      · exact e
/-- plain sets of one lot are one -/
theorem PL.one {p : Int} {n : Nat} {fs gs : List (List Int)} {L M : List (Nat × List Int)} (p1 : 1 < p) (hL : PL p n fs L) (hM : PL p n gs M) (uL : Up L) (uM : Up M) (e : ∀ u, Lot p (spn fs) u ↔ Lot p (spn gs) u) : L = M := by
  have p0 : 0 < p := by omega
  have sub : ∀ x ∈ vecs L, Lot p (rowsOf (vecs M)) x.2 := fun x hx => (hM.lot _).mpr ((e _).mp ((hL.lot _).mp (Lot.of ⟨x, hx, rfl⟩)))
  have sup : ∀ x ∈ vecs M, Lot p (rowsOf (vecs L)) x.2 := fun x hx => (hL.lot _).mpr ((e _).mpr ((hM.lot _).mp (Lot.of ⟨x, hx, rfl⟩)))
  have pl : L.map (·.1) = M.map (·.1) := by
    apply up_ext uL uM
    intro a
    rw [← vecs_places, ← vecs_places (L := M)]
    constructor
    · intro ha
      obtain ⟨x, hx, rfl⟩ := List.mem_map.mp ha
      obtain ⟨y, hy, ey⟩ := place_in p1 hL.leads hL.ahead hM.leads hM.ahead hM.ndv sub hx
      exact List.mem_map.mpr ⟨y, hy, ey⟩
    · intro ha
      obtain ⟨x, hx, rfl⟩ := List.mem_map.mp ha
      obtain ⟨y, hy, ey⟩ := place_in p1 hM.leads hM.ahead hL.leads hL.ahead hL.ndv sup hx
      exact List.mem_map.mpr ⟨y, hy, ey⟩
  have ll : L.length = M.length := by
    have := congrArg List.length pl
    simpa using this
  apply List.ext_getElem ll
  intro i h1 h2
  have ei : (L[i]).1 = (M[i]).1 := by
    have a : (L.map (·.1))[i]? = (M.map (·.1))[i]? := by rw [pl]
    rw [List.getElem?_map, List.getElem?_map, List.getElem?_eq_getElem h1, List.getElem?_eq_getElem h2] at a
    exact Option.some.inj a
  have m1 := List.getElem_mem h1
  have m2 := List.getElem_mem h2
  have k := plain_same p1 hL.leads hL.ahead hL.ndv hM.leads hM.ahead hM.ndv sub sup (mem_vecs.mpr ⟨_, m1, rfl⟩) (mem_vecs.mpr ⟨_, m2, rfl⟩) ei.symm
  have e2 : (L[i]).2 = (M[i]).2 := list_eq p0 (by rw [hL.len _ m1, hM.len _ m2]) (hL.rg _ m1) (hM.rg _ m2) k
  exact Prod.ext ei e2
/-! ### rows of pairs -/
def flatR (r : List (Int × Int)) : List Int := r.flatMap fun u => [u.1, u.2]
theorem flat_cons (u : Int × Int) (r : List (Int × Int)) : flatR (u :: r) = u.1 :: u.2 :: flatR r := rfl
theorem flat_len : ∀ r : List (Int × Int), (flatR r).length = 2 * r.length
  | [] => rfl
  | u :: r => by
    rw [flat_cons, List.length_cons, List.length_cons, flat_len r, List.length_cons]
    omega
theorem flat_snoc (r : List (Int × Int)) (u : Int × Int) : flatR (r ++ [u]) = flatR r ++ [u.1, u.2] := by
  unfold flatR
  rw [List.flatMap_append]
  rfl
theorem flat_inj : ∀ {r s : List (Int × Int)}, flatR r = flatR s → r = s
  | [], [], _ => rfl
  | [], _ :: _, h => by simp [flatR] at h
  | _ :: _, [], h => by simp [flatR] at h
  | u :: r, v :: s, h => by
    rw [flat_cons, flat_cons] at h
    obtain ⟨h1, h⟩ := List.cons.inj h
    obtain ⟨h2, h⟩ := List.cons.inj h
    rw [flat_inj h, Prod.ext h1 h2]
theorem vec_zero {a : Int} {us : List Int} : vec (a :: us) 0 = a := rfl
theorem vec_succ {a : Int} {us : List Int} {i : Nat} : vec (a :: us) (i + 1) = vec us i := by
  show (a :: us).getD (i + 1) 0 = us.getD i 0
  rw [List.getD_eq_getElem?_getD, List.getD_eq_getElem?_getD]
  rfl
def addP (p : Int) (r s : List (Int × Int)) : List (Int × Int) := List.zipWith (fun u v => ((u.1 + v.1) % p, (u.2 + v.2) % p)) r s
def timP (p n : Int) (r : List (Int × Int)) : List (Int × Int) := r.map fun u => (n * u.1 % p, n * u.2 % p)
theorem vec_addP {p : Int} : ∀ {r s : List (Int × Int)}, r.length = s.length → Eqv p (vec (flatR (addP p r s))) fun i => vec (flatR r) i + vec (flatR s) i
  | [], [], _ => fun i => ⟨0, by simp [addP, flatR, vec]⟩
  | [], _ :: _, h => by simp at h
  | _ :: _, [], h => by simp at h
  | u :: r, v :: s, h => fun i => by
    have e : addP p (u :: r) (v :: s) = ((u.1 + v.1) % p, (u.2 + v.2) % p) :: addP p r s := rfl
    rw [e, flat_cons]
    show Cg p (vec ((u.1 + v.1) % p :: (u.2 + v.2) % p :: flatR (addP p r s)) i) (vec (flatR (u :: r)) i + vec (flatR (v :: s)) i)
    rw [flat_cons, flat_cons]
    match i with
    | 0 => exact Cg.mod _
    | 1 => exact Cg.mod _
    | i + 2 =>
      rw [vec_succ, vec_succ, vec_succ, vec_succ, vec_succ, vec_succ]
      exact vec_addP (by simpa using h) i
theorem vec_timP {p n : Int} : ∀ {r : List (Int × Int)}, Eqv p (vec (flatR (timP p n r))) fun i => n * vec (flatR r) i
  | [] => fun i => ⟨0, by simp [timP, flatR, vec]⟩
  | u :: r => fun i => by
    have e : timP p n (u :: r) = (n * u.1 % p, n * u.2 % p) :: timP p n r := rfl
    rw [e, flat_cons]
    show Cg p (vec (n * u.1 % p :: n * u.2 % p :: flatR (timP p n r)) i) (n * vec (flatR (u :: r)) i)
    rw [flat_cons]
    match i with
    | 0 => exact Cg.mod _
    | 1 => exact Cg.mod _
    | i + 2 =>
      rw [vec_succ, vec_succ, vec_succ, vec_succ]
      exact vec_timP i
theorem vec_noP {i : Nat} : ∀ n : Nat, vec (flatR (List.replicate n ((0 : Int), (0 : Int)))) i = 0
  | 0 => rfl
  | n + 1 => by
    rw [List.replicate_succ, flat_cons]
    match i with
    | 0 => rfl
    | 1 => rfl
    | i + 2 =>
      rw [vec_succ, vec_succ]
      exact vec_noP n
theorem add_lenP {p : Int} {r s : List (Int × Int)} (h : r.length = s.length) : (addP p r s).length = r.length := by
  unfold addP
  rw [List.length_zipWith]
  omega
theorem tim_lenP {p n : Int} {r : List (Int × Int)} : (timP p n r).length = r.length := by
  unfold timP
  rw [List.length_map]
/-- sums of multiples of rows -/
def sumP (p : Int) (acc : List (Int × Int)) : List (Int × List (Int × Int)) → List (Int × Int)
  | [] => acc
  | x :: l => sumP p (addP p acc (timP p x.1 x.2)) l
theorem sum_snoc {p : Int} {x : Int × List (Int × Int)} : ∀ (l : List (Int × List (Int × Int))) (acc : List (Int × Int)), sumP p acc (l ++ [x]) = addP p (sumP p acc l) (timP p x.1 x.2)
  | [], _ => rfl
  | _ :: l, _ => sum_snoc l _
theorem sum_lenP {p : Int} {n : Nat} : ∀ (l : List (Int × List (Int × Int))) {acc : List (Int × Int)}, (∀ x ∈ l, x.2.length = n) → acc.length = n → (sumP p acc l).length = n
  | [], _, _, h => h
  | x :: l, acc, hl, h => sum_lenP l (fun y hy => hl y (List.mem_cons_of_mem _ hy)) (by rw [add_lenP (by rw [tim_lenP, h, hl x (by simp)])]; exact h)
def combV : List (Int × Vc) → Vc
  | [] => fun _ => 0
  | x :: l => fun i => x.1 * x.2 i + combV l i
def pairV (l : List (Int × List (Int × Int))) : List (Int × Vc) := l.map fun x => (x.1, vec (flatR x.2))
theorem vec_sumP {p : Int} {n : Nat} : ∀ (l : List (Int × List (Int × Int))) {acc : List (Int × Int)}, (∀ x ∈ l, x.2.length = n) → acc.length = n → Eqv p (vec (flatR (sumP p acc l))) fun i => vec (flatR acc) i + combV (pairV l) i
  | [], _, _, _ => fun i => ⟨0, by simp [sumP, pairV, combV]⟩
  | x :: l, acc, hl, h => fun i => by
    have e : acc.length = (timP p x.1 x.2).length := by rw [tim_lenP, h, hl x (by simp)]
    have a := vec_sumP (p := p) l (acc := addP p acc (timP p x.1 x.2)) (fun y hy => hl y (List.mem_cons_of_mem _ hy)) (by rw [add_lenP e]; exact h) i
    refine a.trans ?_
    have b := (vec_addP (p := p) e i).trans (Cg.rfl'.add (vec_timP i))
    have c := Cg.add b (Cg.rfl' (a := combV (pairV l) i))
    have d : vec (flatR acc) i + x.1 * vec (flatR x.2) i + combV (pairV l) i = vec (flatR acc) i + combV (pairV (x :: l)) i := by
      show _ = vec (flatR acc) i + (x.1 * vec (flatR x.2) i + combV (pairV l) i)
      omega
    rw [d] at c
    exact c
theorem comb_lot {p : Int} {R : Vc → Prop} : ∀ {l : List (Int × Vc)}, (∀ x ∈ l, R x.2) → Lot p R (combV l)
  | [], _ => .zero
  | x :: l, h => .eqv (Lot.comb x.1 (comb_lot (l := l) fun y hy => h y (List.mem_cons_of_mem _ hy)) (Lot.of (h x (by simp)))) fun i => ⟨0, by simp only [combV]; grind⟩
/-- the sum of rows is in their lot -/
theorem sum_lot {p : Int} {n : Nat} {l : List (Int × List (Int × Int))} {rs : List (List (Int × Int))} (hl : ∀ x ∈ l, x.2.length = n) (hm : ∀ x ∈ l, x.2 ∈ rs) : Lot p (spn (rs.map flatR)) (vec (flatR (sumP p (List.replicate n ((0 : Int), (0 : Int))) l))) := by
  have a : Lot p (spn (rs.map flatR)) (combV (pairV l)) := comb_lot fun y hy => by
    obtain ⟨x, hx, rfl⟩ := List.mem_map.mp hy
    exact ⟨flatR x.2, List.mem_map.mpr ⟨x.2, hm x hx, rfl⟩, rfl⟩
  refine .eqv a fun i => Cg.symm ?_
  have b := vec_sumP (p := p) l (acc := List.replicate n ((0 : Int), (0 : Int))) hl (by simp) i
  have e : vec (flatR (List.replicate n ((0 : Int), (0 : Int)))) i + combV (pairV l) i = combV (pairV l) i := by
    rw [vec_noP]
    omega
  dsimp only at b
  rw [e] at b
  exact b
theorem own_comb_eq {u : Vc} : ∀ {L : List (Nat × List Int)} {i : Nat}, own u (vecs L) i = combV (L.map fun x => (u x.1, vec x.2)) i
  | [], _ => rfl
  | x :: L, i => by
    show u x.1 * vec x.2 i + own u (vecs L) i = u x.1 * vec x.2 i + combV (L.map fun x => (u x.1, vec x.2)) i
    rw [own_comb_eq (L := L)]
/-- a row is the sum by its own numbers at the places of a plain set just where it is in the lot -/
theorem is_sum_iff {p : Int} {n : Nat} {rs : List (List (Int × Int))} {qs : List Nat} {r : List (Int × Int)} (p0 : 0 < p) (hl : ∀ x ∈ rs, x.length = n) (hq : qs.length = rs.length) (pl : PL p (2 * n) (rs.map flatR) (qs.zip (rs.map flatR))) (hr : r.length = n) (rg : Rg p (flatR r)) (srg : Rg p (flatR (sumP p (List.replicate n ((0 : Int), (0 : Int))) ((qs.map (vec (flatR r))).zip rs)))) :
    sumP p (List.replicate n ((0 : Int), (0 : Int))) ((qs.map (vec (flatR r))).zip rs) = r ↔ Lot p (spn (rs.map flatR)) (vec (flatR r)) := by
  have mem : ∀ x ∈ (qs.map (vec (flatR r))).zip rs, x.2.length = n := fun x hx => hl _ (List.of_mem_zip hx).2
  have key : Eqv p (vec (flatR (sumP p (List.replicate n ((0 : Int), (0 : Int))) ((qs.map (vec (flatR r))).zip rs)))) (own (vec (flatR r)) (vecs (qs.zip (rs.map flatR)))) := fun i => by
    have b := vec_sumP (p := p) ((qs.map (vec (flatR r))).zip rs) (acc := List.replicate n ((0 : Int), (0 : Int))) mem (by simp) i
    have e : vec (flatR (List.replicate n ((0 : Int), (0 : Int)))) i + combV (pairV ((qs.map (vec (flatR r))).zip rs)) i = own (vec (flatR r)) (vecs (qs.zip (rs.map flatR))) i := by
      rw [vec_noP, own_comb_eq]
      have e2 : pairV ((qs.map (vec (flatR r))).zip rs) = (qs.zip (rs.map flatR)).map fun x => (vec (flatR r) x.1, vec x.2) := by
        unfold pairV
        apply List.ext_getElem?
        intro j
        simp only [List.getElem?_map, List.getElem?_zip_eq_some, List.zip, List.getElem?_zipWith]
        cases qs[j]? with
        | none => rfl
        | some a =>
          cases rs[j]? with
          | none => rfl
          | some b => rfl
      rw [e2]
      omega
    dsimp only at b
    rw [e] at b
    exact b
  rw [← pl.lot, lot_iff pl.leads pl.ndv]
  constructor
  · intro h
    rw [h] at key
    exact key.symm
  · intro h
    apply flat_inj
    exact list_eq p0 (by rw [flat_len, flat_len, sum_lenP _ mem (by simp), hr]) srg rg (key.trans h)
/-! ### rows stirred -/
theorem lot_set_add {p c : Int} {fs : List (List Int)} {i j : Nat} {f g h : List Int} (ne : i ≠ j) (hi : fs[i]? = some f) (hj : fs[j]? = some g) (e : Eqv p (vec h) fun k => vec f k + c * vec g k) (u : Vc) : Lot p (spn (fs.set i h)) u ↔ Lot p (spn fs) u := by
  have il : i < fs.length := (List.getElem?_eq_some_iff.mp hi).1
  have gin : g ∈ fs.set i h := List.mem_of_getElem? (i := j) (by rw [List.getElem?_set_ne ne]; exact hj)
  have hin : h ∈ fs.set i h := List.mem_set il h
  refine Lot.iff (fun v hv => ?_) (fun v hv => ?_) u
  · obtain ⟨k, hk, rfl⟩ := hv
    rcases List.mem_or_eq_of_mem_set hk with m | m
    · exact Lot.of ⟨k, m, rfl⟩
    · rw [m]
      exact .eqv (Lot.comb c (Lot.of ⟨f, List.mem_of_getElem? hi, rfl⟩) (Lot.of ⟨g, List.mem_of_getElem? hj, rfl⟩)) e.symm
  · obtain ⟨k, hk, rfl⟩ := hv
    obtain ⟨m, hm, rfl⟩ := List.mem_iff_getElem.mp hk
    by_cases e2 : m = i
    · subst e2
      have z : fs[m] = f := by
        rw [List.getElem?_eq_getElem hm] at hi
        exact Option.some.inj hi
      rw [z]
      refine .eqv (Lot.comb (-c) (Lot.of ⟨h, hin, rfl⟩) (Lot.of ⟨g, gin, rfl⟩)) fun k => ?_
      have a := (e k).add (Cg.rfl' (a := -c * vec g k))
      have b : vec f k + c * vec g k + -c * vec g k = vec f k := by grind
      rw [b] at a
      exact a
    · exact Lot.of ⟨fs[m], List.mem_of_getElem? (i := m) (by rw [List.getElem?_set_ne (fun z => e2 z.symm), List.getElem?_eq_getElem hm]), rfl⟩
theorem lot_set_mul {p c d : Int} {fs : List (List Int)} {i : Nat} {f h : List Int} (hi : fs[i]? = some f) (e : Eqv p (vec h) fun k => c * vec f k) (hd : Cg p (d * c) 1) (u : Vc) : Lot p (spn (fs.set i h)) u ↔ Lot p (spn fs) u := by
  have il : i < fs.length := (List.getElem?_eq_some_iff.mp hi).1
  have hin : h ∈ fs.set i h := List.mem_set il h
  refine Lot.iff (fun v hv => ?_) (fun v hv => ?_) u
  · obtain ⟨k, hk, rfl⟩ := hv
    rcases List.mem_or_eq_of_mem_set hk with m | m
    · exact Lot.of ⟨k, m, rfl⟩
    · rw [m]
      refine .eqv (Lot.comb c .zero (Lot.of ⟨f, List.mem_of_getElem? hi, rfl⟩)) fun k => ?_
      have z : (0 : Int) + c * vec f k = c * vec f k := by omega
      show Cg p (0 + c * vec f k) _
      rw [z]
      exact (e k).symm
  · obtain ⟨k, hk, rfl⟩ := hv
    obtain ⟨m, hm, rfl⟩ := List.mem_iff_getElem.mp hk
    by_cases e2 : m = i
    · subst e2
      have z : fs[m] = f := by
        rw [List.getElem?_eq_getElem hm] at hi
        exact Option.some.inj hi
      rw [z]
      refine .eqv (Lot.comb d .zero (Lot.of ⟨h, hin, rfl⟩)) fun k => ?_
      have a := (Cg.rfl' (p := p) (a := d)).mul (e k)
      have b := hd.mul (Cg.rfl' (a := vec f k))
      have z1 : d * (c * vec f k) = d * c * vec f k := by grind
      have z2 : (1 : Int) * vec f k = vec f k := by omega
      have z3 : (0 : Int) + d * vec h k = d * vec h k := by omega
      show Cg p (0 + d * vec h k) _
      rw [z3]
      have a' : Cg p (d * vec h k) (d * (c * vec f k)) := a
      rw [z1] at a'
      rw [z2] at b
      exact a'.trans b
    · exact Lot.of ⟨fs[m], List.mem_of_getElem? (i := m) (by rw [List.getElem?_set_ne (fun z => e2 z.symm), List.getElem?_eq_getElem hm]), rfl⟩
/-- a row of the lot put in anywhere -/
theorem lot_more_rows {p : Int} {fs gs : List (List Int)} {f : List Int} (hf : Lot p (spn fs) (vec f)) (hg : ∀ g, g ∈ gs ↔ g ∈ fs ∨ g = f) (u : Vc) : Lot p (spn gs) u ↔ Lot p (spn fs) u := by
  refine Lot.iff (fun v hv => ?_) (fun v hv => ?_) u
  · obtain ⟨k, hk, rfl⟩ := hv
    rcases (hg k).mp hk with m | m
    · exact Lot.of ⟨k, m, rfl⟩
    · rw [m]
      exact hf
  · obtain ⟨k, hk, rfl⟩ := hv
    exact Lot.of ⟨k, (hg k).mpr (.inl hk), rfl⟩
/-! ### a plain set that is drawn -/
structure Pln (p : Int) (n : Nat) (qs : List Nat) (fs : List (List Int)) : Prop where
  len : fs.length = qs.length
  up : qs.Pairwise (· < ·)
  lt : ∀ q ∈ qs, q < n
  row : ∀ (i q : Nat) (f : List Int), qs[i]? = some q → fs[i]? = some f → f.length = n ∧ Rg p f ∧ (∀ j, j < q → vec f j = 0) ∧ vec f q = 1 ∧ ∀ o ∈ qs, q < o → vec f o = 0
theorem mem_zip_get {qs : List Nat} {fs : List (List Int)} {x : Nat × List Int} (h : x ∈ qs.zip fs) : ∃ i : Nat, qs[i]? = some x.1 ∧ fs[i]? = some x.2 := by
  obtain ⟨i, hi, e⟩ := List.mem_iff_getElem.mp h
  have hi' : i < qs.length ∧ i < fs.length := by
    rw [List.length_zip] at hi
    omega
  refine ⟨i, ?_, ?_⟩
  · rw [← e, List.getElem_zip, List.getElem?_eq_getElem hi'.1]
  · rw [← e, List.getElem_zip, List.getElem?_eq_getElem hi'.2]
theorem zip_places : ∀ {qs : List Nat} {fs : List (List Int)}, fs.length = qs.length → (qs.zip fs).map (·.1) = qs
  | [], _, _ => rfl
  | _ :: _, [], h => by simp at h
  | q :: qs, f :: fs, h => by
    rw [List.zip_cons_cons, List.map_cons, zip_places (by simpa using h)]
theorem Pln.pl {p : Int} {n : Nat} {qs : List Nat} {fs : List (List Int)} (h : Pln p n qs fs) : PL p n fs (qs.zip fs) ∧ Up (qs.zip fs) := by
  have pls := zip_places h.len
  refine ⟨⟨fun x hx => ?_, fun x hx => ?_, fun x hx => ?_, ?_, ⟨fun y hy => ?_, fun y hy z hz ne => ?_⟩, fun y hy i hi => ?_, fun u => ?_⟩, ?_⟩
  · obtain ⟨i, h1, h2⟩ := mem_zip_get hx
    exact (h.row i _ _ h1 h2).1
  · obtain ⟨i, h1, h2⟩ := mem_zip_get hx
    exact (h.row i _ _ h1 h2).2.1
  · exact h.lt _ (List.of_mem_zip hx).1
  · rw [pls]
    exact h.up.imp fun {a b} h => Nat.ne_of_lt h
  · obtain ⟨x, hx, rfl⟩ := mem_vecs.mp hy
    obtain ⟨i, h1, h2⟩ := mem_zip_get hx
    show Cg p (vec x.2 x.1) 1
    rw [(h.row i _ _ h1 h2).2.2.2.1]
    exact Cg.rfl'
  · obtain ⟨x, hx, rfl⟩ := mem_vecs.mp hy
    obtain ⟨w, hw, rfl⟩ := mem_vecs.mp hz
    obtain ⟨i, h1, h2⟩ := mem_zip_get hx
    have r := h.row i _ _ h1 h2
    show Cg p (vec x.2 w.1) 0
    have ne' : x.1 ≠ w.1 := ne
    rcases Nat.lt_or_ge w.1 x.1 with l | l
    · rw [r.2.2.1 _ l]
      exact Cg.rfl'
    · rw [r.2.2.2.2 w.1 (List.of_mem_zip hw).1 (by omega)]
      exact Cg.rfl'
  · obtain ⟨x, hx, rfl⟩ := mem_vecs.mp hy
    obtain ⟨j, h1, h2⟩ := mem_zip_get hx
    show Cg p (vec x.2 i) 0
    rw [(h.row j _ _ h1 h2).2.2.1 i hi]
    exact Cg.rfl'
  · have e : rowsOf (vecs (qs.zip fs)) = spn fs := by
      funext v
      apply propext
      constructor
      · rintro ⟨y, hy, rfl⟩
        obtain ⟨x, hx, rfl⟩ := mem_vecs.mp hy
        exact ⟨x.2, (List.of_mem_zip hx).2, rfl⟩
      · rintro ⟨f, hf, rfl⟩
        obtain ⟨i, hi, rfl⟩ := List.mem_iff_getElem.mp hf
        have hq : i < qs.length := by rw [← h.len]; exact hi
        refine ⟨(qs[i], vec fs[i]), mem_vecs.mpr ⟨(qs[i], fs[i]), ?_, rfl⟩, rfl⟩
        exact List.mem_iff_getElem.mpr ⟨i, by rw [List.length_zip]; omega, by rw [List.getElem_zip]⟩
    rw [e]
  · show ((qs.zip fs).map (·.1)).Pairwise (· < ·)
    rw [pls]
    exact h.up
/-! ### a list of numbers as a row -/
def ev2 {α : Type} : List α → List α
  | [] => []
  | [a] => [a]
  | a :: _ :: r => a :: ev2 r
theorem ev2_cons {α : Type} (b : α) : ∀ r : List α, ev2 (b :: r) = b :: ev2 (r.drop 1)
  | [] => rfl
  | _ :: _ => rfl
def rowL (us : List Int) : List (Int × Int) := (ev2 us).zip (ev2 (us.drop 1))
theorem rowL_flat : ∀ (m : Nat) (us : List Int), us.length = 2 * m → flatR (rowL us) = us ∧ (rowL us).length = m
  | 0, [], _ => ⟨rfl, rfl⟩
  | 0, _ :: _, h => by simp at h
  | m + 1, [], h => by simp at h
  | m + 1, [_], h => by simp at h; omega
  | m + 1, a :: b :: r, h => by
    have hr : r.length = 2 * m := by
      simp only [List.length_cons] at h
      omega
    obtain ⟨h1, h2⟩ := rowL_flat m r hr
    have e : rowL (a :: b :: r) = (a, b) :: rowL r := by
      show (a :: ev2 r).zip (ev2 (b :: r)) = _
      rw [ev2_cons]
      rfl
    rw [e]
    exact ⟨by rw [flat_cons, h1], by rw [List.length_cons, h2]⟩
theorem erase_perm {α : Type} {ps : List α} {k : Nat} {x : α} (h : ps[k]? = some x) (qs : List α) : (ps.eraseIdx k ++ (qs ++ [x])).Perm (ps ++ qs) := by
  have hk := (List.getElem?_eq_some_iff.mp h).1
  have e1 : ps.eraseIdx k = ps.take k ++ ps.drop (k + 1) := List.eraseIdx_eq_take_drop_succ ps k
  have e2 : ps = ps.take k ++ x :: ps.drop (k + 1) := by
    have z : x = ps[k] := by
      rw [List.getElem?_eq_getElem hk] at h
      exact (Option.some.inj h).symm
    rw [z, ← List.drop_eq_getElem_cons hk, List.take_append_drop]
  rw [e1]
  conv => rhs; rw [e2]
  rw [List.append_assoc, List.append_assoc]
  refine List.Perm.append_left _ ?_
  rw [List.cons_append, ← List.append_assoc]
  exact List.perm_append_singleton x _
/-! ### mirrors -/
def shf (u : Vc) : Vc := fun i => u (i + 1)
/-- the sum of products, place by place -/
def dot : Vc → Vc → Nat → Int
  | _, _, 0 => 0
  | u, v, n + 1 => u 0 * v 0 + dot (shf u) (shf v) n
theorem dot_comb {c : Int} : ∀ (n : Nat) (u v w : Vc), dot u (fun i => v i + c * w i) n = dot u v n + c * dot u w n
  | 0, _, _, _ => by simp [dot]
  | n + 1, u, v, w => by
    have ih := dot_comb (c := c) n (shf u) (shf v) (shf w)
    show u 0 * (v 0 + c * w 0) + dot (shf u) (fun i => shf v i + c * shf w i) n = u 0 * v 0 + dot (shf u) (shf v) n + c * (u 0 * w 0 + dot (shf u) (shf w) n)
    rw [ih]
    grind
theorem dot_combL {c : Int} : ∀ (n : Nat) (u v w : Vc), dot (fun i => u i + c * v i) w n = dot u w n + c * dot v w n
  | 0, _, _, _ => by simp [dot]
  | n + 1, u, v, w => by
    have ih := dot_combL (c := c) n (shf u) (shf v) (shf w)
    show (u 0 + c * v 0) * w 0 + dot (fun i => shf u i + c * shf v i) (shf w) n = u 0 * w 0 + dot (shf u) (shf w) n + c * (v 0 * w 0 + dot (shf v) (shf w) n)
    rw [ih]
    grind
theorem dot_eqv {p : Int} : ∀ (n : Nat) {u v w x : Vc}, Eqv p u v → Eqv p w x → Cg p (dot u w n) (dot v x n)
  | 0, _, _, _, _, _, _ => Cg.rfl'
  | n + 1, _, _, _, _, h, k => ((h 0).mul (k 0)).add (dot_eqv n (fun i => h (i + 1)) fun i => k (i + 1))
theorem dot_zero : ∀ (n : Nat) (u : Vc), dot u (fun _ => 0) n = 0
  | 0, _ => rfl
  | n + 1, u => by
    show u 0 * 0 + dot (shf u) (fun _ => 0) n = 0
    rw [dot_zero n]
    simp
theorem dot_zeroL : ∀ (n : Nat) (u : Vc), dot (fun _ => 0) u n = 0
  | 0, _ => rfl
  | n + 1, u => by
    show 0 * u 0 + dot (fun _ => 0) (shf u) n = 0
    rw [dot_zeroL n]
    simp
theorem dot_comm : ∀ (n : Nat) (u v : Vc), dot u v n = dot v u n
  | 0, _, _ => rfl
  | n + 1, u, v => by
    show u 0 * v 0 + dot (shf u) (shf v) n = v 0 * u 0 + dot (shf v) (shf u) n
    rw [dot_comm n, Int.mul_comm]
def un (j : Nat) : Vc := fun i => if i = j then 1 else 0
theorem shf_un0 : shf (un 0) = fun _ => 0 := by
  funext i
  show (if i + 1 = 0 then (1 : Int) else 0) = 0
  rw [if_neg (by omega)]
theorem shf_unS {j : Nat} : shf (un (j + 1)) = un j := by
  funext i
  show (if i + 1 = j + 1 then (1 : Int) else 0) = if i = j then 1 else 0
  by_cases h : i = j
  · rw [if_pos h, if_pos (by omega)]
  · rw [if_neg h, if_neg (by omega)]
theorem dot_un : ∀ (n j : Nat) (u : Vc), j < n → dot u (un j) n = u j
  | 0, _, _, h => absurd h (Nat.not_lt_zero _)
  | n + 1, 0, u, _ => by
    show u 0 * 1 + dot (shf u) (shf (un 0)) n = u 0
    rw [shf_un0, dot_zero]
    omega
  | n + 1, j + 1, u, h => by
    show u 0 * 0 + dot (shf u) (shf (un (j + 1))) n = u (j + 1)
    rw [shf_unS, dot_un n j (shf u) (by omega)]
    show u 0 * 0 + u (j + 1) = u (j + 1)
    omega
/-- sums of units -/
def cu (a : Nat × Vc → Int) : List (Nat × Vc) → Vc
  | [] => fun _ => 0
  | x :: L => fun i => a x * un x.1 i + cu a L i
theorem dot_cu {a : Nat × Vc → Int} {n : Nat} {u : Vc} : ∀ {L : List (Nat × Vc)}, (∀ x ∈ L, x.1 < n) → dot u (cu a L) n = combV (L.map fun x => (u x.1, fun _ => a x)) 0
  | [], _ => dot_zero n u
  | x :: L, h => by
    have ih := dot_cu (a := a) (u := u) (L := L) fun y hy => h y (List.mem_cons_of_mem _ hy)
    have e : cu a (x :: L) = fun i => cu a L i + a x * un x.1 i := by
      funext i
      show a x * un x.1 i + cu a L i = _
      omega
    rw [e, dot_comb, ih, dot_un n x.1 u (h x (by simp))]
    show combV (L.map fun x => (u x.1, fun _ => a x)) 0 + a x * u x.1 = u x.1 * a x + combV (L.map fun x => (u x.1, fun _ => a x)) 0
    rw [Int.mul_comm]
    omega
theorem own_as {u : Vc} {f : Nat} : ∀ {L : List (Nat × Vc)}, combV (L.map fun x => (u x.1, fun _ => x.2 f)) 0 = own u L f
  | [] => rfl
  | x :: L => by
    show u x.1 * x.2 f + combV (L.map fun x => (u x.1, fun _ => x.2 f)) 0 = u x.1 * x.2 f + own u L f
    rw [own_as]
/-- the row that is free at f -/
def frV (f : Nat) (L : List (Nat × Vc)) : Vc := fun i => un f i + -1 * cu (fun x => x.2 f) L i
theorem dot_fr {n f : Nat} {L : List (Nat × Vc)} {u : Vc} (hf : f < n) (hL : ∀ x ∈ L, x.1 < n) : dot u (frV f L) n = left u L f := by
  show dot u (fun i => un f i + -1 * cu (fun x => x.2 f) L i) n = u f - own u L f
  rw [dot_comb, dot_un n f u hf, dot_cu hL, own_as]
  omega
theorem cu_out {a : Nat × Vc → Int} {i : Nat} : ∀ {L : List (Nat × Vc)}, (∀ x ∈ L, x.1 ≠ i) → cu a L i = 0
  | [], _ => rfl
  | x :: L, h => by
    show a x * un x.1 i + cu a L i = 0
    rw [cu_out fun y hy => h y (List.mem_cons_of_mem _ hy)]
    have e : un x.1 i = 0 := if_neg fun z => h x (by simp) z.symm
    rw [e]
    simp
theorem cu_at {a : Nat × Vc → Int} : ∀ {L : List (Nat × Vc)}, (L.map (·.1)).Nodup → ∀ {x : Nat × Vc}, x ∈ L → cu a L x.1 = a x
  | [], _, _, h => by cases h
  | y :: L, nd, x, h => by
    have nd' := List.nodup_cons.mp (by simpa using nd : (y.1 :: L.map (·.1)).Nodup)
    show a y * un y.1 x.1 + cu a L x.1 = a x
    rcases List.mem_cons.mp h with rfl | h
    · rw [cu_out fun z hz e => nd'.1 (by rw [← e]; exact List.mem_map.mpr ⟨z, hz, rfl⟩)]
      have e : un x.1 x.1 = 1 := if_pos rfl
      rw [e]
      omega
    · have ne : x.1 ≠ y.1 := fun e => nd'.1 (by rw [← e]; exact List.mem_map.mpr ⟨x, h, rfl⟩)
      have e : un y.1 x.1 = 0 := if_neg ne
      rw [e, cu_at nd'.2 h]
      omega
theorem fr_self {f : Nat} {L : List (Nat × Vc)} (h : ∀ x ∈ L, x.1 ≠ f) : frV f L f = 1 := by
  show un f f + -1 * cu (fun x => x.2 f) L f = 1
  rw [cu_out h]
  have e : un f f = 1 := if_pos rfl
  rw [e]
  omega
theorem fr_other {f g : Nat} {L : List (Nat × Vc)} (h : ∀ x ∈ L, x.1 ≠ g) (ne : f ≠ g) : frV f L g = 0 := by
  show un f g + -1 * cu (fun x => x.2 f) L g = 0
  rw [cu_out h]
  have e : un f g = 0 := if_neg fun z => ne z.symm
  rw [e]
  omega
/-- nothing from n on -/
def Sup (n : Nat) (u : Vc) : Prop := ∀ i, n ≤ i → u i = 0
theorem sup_vec {n : Nat} {us : List Int} (h : us.length = n) : Sup n (vec us) := fun i hi => vec_out (by omega)
theorem dot_lotR {p : Int} {n : Nat} {R : Vc → Prop} {u v : Vc} (h : Lot p R v) (k : ∀ w, R w → Cg p (dot u w n) 0) : Cg p (dot u v n) 0 := by
  induction h with
  | zero =>
    rw [dot_zero]
    exact Cg.rfl'
  | add c _ r ih =>
    rw [dot_comb]
    have a := ih.add ((Cg.rfl' (a := c)).mul (k _ r))
    rw [Int.mul_zero] at a
    exact a
  | eqv _ e ih => exact (dot_eqv n Eqv.refl e).symm.trans ih
theorem dot_lotL {p : Int} {n : Nat} {R : Vc → Prop} {u v : Vc} (h : Lot p R u) (k : ∀ w, R w → Cg p (dot w v n) 0) : Cg p (dot u v n) 0 := by
  rw [dot_comm]
  exact dot_lotR h fun w hw => by
    rw [dot_comm]
    exact k w hw
/-- free rows of leads: what they span is just what all the leads make 0 with -/
theorem fr_ker {p : Int} {n : Nat} {L : List (Nat × Vc)} {fs : List Nat} (hL : Leads p L) (nd : (L.map (·.1)).Nodup) (pl : ∀ x ∈ L, x.1 < n) (hf : ∀ f, f ∈ fs ↔ f < n ∧ ∀ x ∈ L, x.1 ≠ f) (ndf : fs.Nodup) {w : Vc} (sw : Sup n w) :
    Lot p (fun v => ∃ f ∈ fs, v = frV f L) w ↔ ∀ x ∈ L, Cg p (dot x.2 w n) 0 := by
  have z : ∀ f ∈ fs, ∀ x ∈ L, Cg p (dot x.2 (frV f L) n) 0 := fun f h x hx => by
    rw [dot_fr ((hf f).mp h).1 pl]
    exact (lot_left hL nd).mp (Lot.of ⟨x, hx, rfl⟩) f
  constructor
  · intro h x hx
    exact dot_lotR h fun v ⟨f, hf', e⟩ => by
      rw [e]
      exact z f hf' x hx
  · intro h
    have M : Leads p (fs.map fun f => (f, frV f L)) := by
      refine ⟨fun y hy => ?_, fun y hy y' hy' ne => ?_⟩
      · obtain ⟨f, h1, rfl⟩ := List.mem_map.mp hy
        show Cg p (frV f L f) 1
        rw [fr_self ((hf f).mp h1).2]
        exact Cg.rfl'
      · obtain ⟨f, h1, rfl⟩ := List.mem_map.mp hy
        obtain ⟨g, h2, rfl⟩ := List.mem_map.mp hy'
        show Cg p (frV f L g) 0
        rw [fr_other ((hf g).mp h2).2 ne]
        exact Cg.rfl'
    have ndM : ((fs.map fun f => (f, frV f L)).map (·.1)).Nodup := by
      rw [List.map_map]
      have e : ((fun x : Nat × Vc => x.1) ∘ fun f => (f, frV f L)) = id := rfl
      rw [e, List.map_id]
      exact ndf
    have key : Eqv p (left w (fs.map fun f => (f, frV f L))) fun _ => 0 := by
      have atf : ∀ f ∈ fs, Cg p (left w (fs.map fun f => (f, frV f L)) f) 0 := fun f h1 => left_at M ndM (x := (f, frV f L)) (List.mem_map.mpr ⟨f, h1, rfl⟩)
      have ownz : ∀ i, n ≤ i → own w (fs.map fun f => (f, frV f L)) i = 0 := fun i hi => by
        have all : ∀ gs : List Nat, (∀ g ∈ gs, g < n) → own w (gs.map fun f => (f, frV f L)) i = 0 := by
          intro gs
          induction gs with
          | nil => intro _; rfl
          | cons g gs ih =>
            intro hg
            show w g * frV g L i + own w (gs.map fun f => (f, frV f L)) i = 0
            have e0 : frV g L i = 0 := fr_other (fun x hx e => by have := pl x hx; omega) (by have := hg g (by simp); omega)
            rw [ih fun g' h' => hg g' (List.mem_cons_of_mem _ h'), e0]
            simp
        exact all fs fun g h1 => ((hf g).mp h1).1
      have out : ∀ i, (∀ x ∈ L, x.1 ≠ i) → Cg p (left w (fs.map fun f => (f, frV f L)) i) 0 := fun i hi => by
        by_cases h1 : i < n
        · exact atf i ((hf i).mpr ⟨h1, hi⟩)
        · show Cg p (w i - own w (fs.map fun f => (f, frV f L)) i) 0
          rw [sw i (by omega), ownz i (by omega)]
          exact ⟨0, by simp⟩
      -- made of units at the leads' places
      have asu : Eqv p (left w (fs.map fun f => (f, frV f L))) (cu (fun x => left w (fs.map fun f => (f, frV f L)) x.1) L) := fun i => by
        by_cases h1 : ∃ x ∈ L, x.1 = i
        · obtain ⟨x, hx, rfl⟩ := h1
          rw [cu_at nd hx]
          exact Cg.rfl'
        · have h2 : ∀ x ∈ L, x.1 ≠ i := fun x hx e => h1 ⟨x, hx, e⟩
          rw [cu_out h2]
          exact out i h2
      have lead0 : ∀ x ∈ L, Cg p (left w (fs.map fun f => (f, frV f L)) x.1) 0 := fun x hx => by
        have d1 : Cg p (dot x.2 (left w (fs.map fun f => (f, frV f L))) n) 0 := by
          have e : left w (fs.map fun f => (f, frV f L)) = fun i => w i + -1 * own w (fs.map fun f => (f, frV f L)) i := by
            funext i
            show w i - own w (fs.map fun f => (f, frV f L)) i = _
            omega
          rw [e, dot_comb]
          have o : Cg p (dot x.2 (own w (fs.map fun f => (f, frV f L))) n) 0 := dot_lotR (R := fun v => ∃ f ∈ fs, v = frV f L) (own_lot _ fun y hy => by
            obtain ⟨f, h1, rfl⟩ := List.mem_map.mp hy
            exact ⟨f, h1, rfl⟩) fun v ⟨f, h1, e⟩ => by
              rw [e]
              exact z f h1 x hx
          have a := (h x hx).add ((Cg.rfl' (a := -1)).mul o)
          rw [Int.mul_zero] at a
          exact a
        have d2 := (dot_eqv n (Eqv.refl (u := x.2)) asu).symm.trans d1
        rw [dot_cu pl] at d2
        -- only x itself counts
        have d4 : ∀ (M : List (Nat × Vc)) (a : Nat × Vc → Int), (∀ y ∈ M, y ∈ L) → (M.map (·.1)).Nodup → Cg p (combV (M.map fun y => (x.2 y.1, fun _ => a y)) 0) (if x.1 ∈ M.map (·.1) then cu a M x.1 else 0) := by
          intro M a
          induction M with
          | nil =>
            intro _ _
            exact Cg.rfl'
          | cons y M ih =>
            intro hM ndM'
            have nd' := List.nodup_cons.mp (by simpa using ndM' : (y.1 :: M.map (·.1)).Nodup)
            have ih' := ih (fun z hz => hM z (List.mem_cons_of_mem _ hz)) nd'.2
            show Cg p (x.2 y.1 * a y + combV (M.map fun y => (x.2 y.1, fun _ => a y)) 0) _
            by_cases e : x.1 = y.1
            · have n1 : x.1 ∉ M.map (·.1) := by rw [e]; exact nd'.1
              rw [if_neg n1] at ih'
              have m1 : x.1 ∈ (y :: M).map (·.1) := by rw [e]; simp
              rw [if_pos m1]
              show Cg p _ (a y * un y.1 x.1 + cu a M x.1)
              have c0 : cu a M x.1 = 0 := cu_out fun z hz e2 => n1 (List.mem_map.mpr ⟨z, hz, e2⟩)
              have u1 : un y.1 x.1 = 1 := if_pos e
              rw [c0, u1]
              have s1 := hL.self x hx
              rw [e] at s1
              have a1 := (s1.mul (Cg.rfl' (a := a y))).add ih'
              have e3 : (1 : Int) * a y + 0 = a y * 1 + 0 := by omega
              rw [e3] at a1
              exact a1
            · have o1 := hL.other x hx y (hM y (by simp)) e
              have u0 : un y.1 x.1 = 0 := if_neg e
              by_cases m : x.1 ∈ M.map (·.1)
              · rw [if_pos m] at ih'
                have m1 : x.1 ∈ (y :: M).map (·.1) := by
                  rw [List.map_cons]
                  exact List.mem_cons_of_mem _ m
                rw [if_pos m1]
                show Cg p _ (a y * un y.1 x.1 + cu a M x.1)
                rw [u0]
                have a1 := (o1.mul (Cg.rfl' (a := a y))).add ih'
                have e3 : (0 : Int) * a y + cu a M x.1 = a y * 0 + cu a M x.1 := by simp
                rw [e3] at a1
                exact a1
              · rw [if_neg m] at ih'
                have m1 : x.1 ∉ (y :: M).map (·.1) := by
                  rw [List.map_cons]
                  intro mm
                  rcases List.mem_cons.mp mm with q | q
                  · exact e q
                  · exact m q
                rw [if_neg m1]
                have a1 := (o1.mul (Cg.rfl' (a := a y))).add ih'
                have e3 : (0 : Int) * a y + 0 = 0 := by simp
                rw [e3] at a1
                exact a1
        have d5 := d4 L (fun y => left w (fs.map fun f => (f, frV f L)) y.1) (fun _ h => h) nd
        rw [if_pos (List.mem_map.mpr ⟨x, hx, rfl⟩), cu_at nd hx] at d5
        exact d5.symm.trans d2
      intro i
      by_cases h1 : ∃ x ∈ L, x.1 = i
      · obtain ⟨x, hx, rfl⟩ := h1
        exact lead0 x hx
      · exact out i fun x hx e => h1 ⟨x, hx, e⟩
    refine Lot.sub (fun v hv => ?_) ((lot_left M ndM).mpr key)
    obtain ⟨y, hy, rfl⟩ := hv
    obtain ⟨f, h1, rfl⟩ := List.mem_map.mp hy
    exact Lot.of ⟨f, h1, rfl⟩
/-- what makes 0 with all free rows is in the lot of the leads -/
theorem fr_back {p : Int} {n : Nat} {L : List (Nat × Vc)} {fs : List Nat} (hL : Leads p L) (nd : (L.map (·.1)).Nodup) (pl : ∀ x ∈ L, x.1 < n) (hf : ∀ f, f ∈ fs ↔ f < n ∧ ∀ x ∈ L, x.1 ≠ f) (sL : ∀ x ∈ L, Sup n x.2) {u : Vc} (su : Sup n u) (h : ∀ f ∈ fs, Cg p (dot u (frV f L) n) 0) : Lot p (rowsOf L) u := by
  refine (lot_left hL nd).mpr fun i => ?_
  by_cases h1 : ∃ x ∈ L, x.1 = i
  · obtain ⟨x, hx, rfl⟩ := h1
    exact left_at hL nd hx
  · have h2 : ∀ x ∈ L, x.1 ≠ i := fun x hx e => h1 ⟨x, hx, e⟩
    by_cases h3 : i < n
    · have a := h i ((hf i).mpr ⟨h3, h2⟩)
      rw [dot_fr h3 pl] at a
      exact a
    · have o : own u L i = 0 := by
        have all : ∀ M : List (Nat × Vc), (∀ x ∈ M, x ∈ L) → own u M i = 0 := by
          intro M
          induction M with
          | nil => intro _; rfl
          | cons y M ih =>
            intro hM
            show u y.1 * y.2 i + own u M i = 0
            rw [ih fun z hz => hM z (List.mem_cons_of_mem _ hz), sL y (hM y (by simp)) i (by omega)]
            simp
        exact all L fun _ h => h
      show Cg p (u i - own u L i) 0
      rw [su i (by omega), o]
      exact ⟨0, by simp⟩
/-! ### rows crossed -/
def crs (u : Vc) : Vc := fun i => if i % 2 = 0 then -u (i + 1) else u (i - 1)
theorem crs_comb {u v : Vc} {c : Int} (i : Nat) : crs (fun j => u j + c * v j) i = crs u i + c * crs v i := by
  unfold crs
  split
  · grind
  · rfl
theorem crs_eqv {p : Int} {u v : Vc} (h : Eqv p u v) : Eqv p (crs u) (crs v) := fun i => by
  unfold crs
  split
  · have a := (Cg.rfl' (p := p) (a := 0)).sub (h (i + 1))
    rw [Int.zero_sub, Int.zero_sub] at a
    exact a
  · exact h (i - 1)
theorem crs_crs (u : Vc) (i : Nat) : crs (crs u) i = -u i := by
  unfold crs
  by_cases h : i % 2 = 0
  · rw [if_pos h, if_neg (by omega)]
    rfl
  · rw [if_neg h, if_pos (by omega)]
    have e : i - 1 + 1 = i := by omega
    rw [e]
def crsR (R : Vc → Prop) : Vc → Prop := fun v => ∃ w, R w ∧ v = crs w
theorem crs_lot {p : Int} {R : Vc → Prop} {u : Vc} (h : Lot p R u) : Lot p (crsR R) (crs u) := by
  induction h with
  | zero => exact .eqv .zero fun i => ⟨0, by unfold crs; split <;> simp⟩
  | @add u v c _ r ih => exact .eqv (.add c ih ⟨v, r, rfl⟩) fun i => ⟨0, by rw [crs_comb]; omega⟩
  | eqv _ e ih => exact .eqv ih (crs_eqv e)
theorem crs_back {p : Int} {R : Vc → Prop} {u : Vc} (h : Lot p (crsR R) (crs u)) : Lot p R u := by
  have a : Lot p R (crs (crs u)) := Lot.sub (fun v hv => by
    obtain ⟨w, ⟨x, hx, rfl⟩, rfl⟩ := hv
    exact .eqv (Lot.comb (-1) .zero (Lot.of hx)) fun i => ⟨0, by rw [crs_crs]; omega⟩) (crs_lot h)
  exact .eqv (Lot.comb (-1) .zero a) fun i => ⟨0, by rw [crs_crs]; omega⟩
def crsP (p : Int) (r : List (Int × Int)) : List (Int × Int) := r.map fun u => (-u.2 % p, u.1)
theorem vec_crs {p : Int} : ∀ {r : List (Int × Int)}, Eqv p (vec (flatR (crsP p r))) (crs (vec (flatR r)))
  | [] => fun i => ⟨0, by simp [crsP, flatR, vec, crs]⟩
  | u :: r => fun i => by
    have e : crsP p (u :: r) = (-u.2 % p, u.1) :: crsP p r := rfl
    rw [e, flat_cons]
    show Cg p (vec (-u.2 % p :: u.1 :: flatR (crsP p r)) i) (crs (vec (flatR (u :: r))) i)
    rw [flat_cons]
    match i with
    | 0 =>
      show Cg p (-u.2 % p) (-u.2)
      exact Cg.mod _
    | 1 => exact Cg.rfl'
    | i + 2 =>
      rw [vec_succ, vec_succ]
      have ih := vec_crs (p := p) (r := r) i
      have e2 : crs (vec (u.1 :: u.2 :: flatR r)) (i + 2) = crs (vec (flatR r)) i := by
        unfold crs
        by_cases h : i % 2 = 0
        · rw [if_pos h, if_pos (by omega)]
          rw [vec_succ, vec_succ]
        · rw [if_neg h, if_neg (by omega)]
          have e3 : i + 2 - 1 = i - 1 + 1 + 1 := by omega
          rw [e3, vec_succ, vec_succ]
      rw [e2]
      exact ih
theorem crs_flat {u : Int × Int} {r : List (Int × Int)} : shf (shf (crs (vec (flatR (u :: r))))) = crs (vec (flatR r)) := by
  funext i
  show crs (vec (flatR (u :: r))) (i + 1 + 1) = _
  rw [flat_cons]
  unfold crs
  by_cases h : i % 2 = 0
  · rw [if_pos h, if_pos (by omega), vec_succ, vec_succ]
  · rw [if_neg h, if_neg (by omega)]
    have e3 : i + 1 + 1 - 1 = i - 1 + 1 + 1 := by omega
    rw [e3, vec_succ, vec_succ]
theorem shf_flat {u : Int × Int} {r : List (Int × Int)} : shf (shf (vec (flatR (u :: r)))) = vec (flatR r) := by
  funext i
  show vec (flatR (u :: r)) (i + 1 + 1) = _
  rw [flat_cons, vec_succ, vec_succ]
/-- the meet of two rows is the dot of the one crossed and the other -/
theorem meet_dot : ∀ {r s : List (Int × Int)}, r.length = s.length → (List.zipWith (fun u v => u.1 * v.2 - v.1 * u.2) r s).sum = dot (crs (vec (flatR r))) (vec (flatR s)) (2 * r.length)
  | [], [], _ => rfl
  | [], _ :: _, h => by simp at h
  | _ :: _, [], h => by simp at h
  | u :: r, v :: s, h => by
    have ih := meet_dot (r := r) (s := s) (by simpa using h)
    have e : 2 * (u :: r).length = 2 * r.length + 1 + 1 := by rw [List.length_cons]; omega
    rw [e]
    show (u.1 * v.2 - v.1 * u.2) + (List.zipWith (fun u v => u.1 * v.2 - v.1 * u.2) r s).sum = crs (vec (flatR (u :: r))) 0 * vec (flatR (v :: s)) 0 + (crs (vec (flatR (u :: r))) 1 * vec (flatR (v :: s)) 1 + dot (shf (shf (crs (vec (flatR (u :: r)))))) (shf (shf (vec (flatR (v :: s))))) (2 * r.length))
    rw [crs_flat, shf_flat, ih]
    have c0 : crs (vec (flatR (u :: r))) 0 = -u.2 := rfl
    have c1 : crs (vec (flatR (u :: r))) 1 = u.1 := rfl
    have v0 : vec (flatR (v :: s)) 0 = v.1 := rfl
    have v1 : vec (flatR (v :: s)) 1 = v.2 := rfl
    rw [c0, c1, v0, v1]
    grind
/-- the dot crossed on the one side is that crossed on the other, less -/
theorem dot_crs : ∀ (m : Nat) (u v : Vc), dot (crs u) v (2 * m) = -dot (crs v) u (2 * m)
  | 0, _, _ => rfl
  | m + 1, u, v => by
    have e : 2 * (m + 1) = 2 * m + 1 + 1 := by omega
    have sh : ∀ w : Vc, shf (shf (crs w)) = crs (shf (shf w)) := fun w => by
      funext i
      show crs w (i + 1 + 1) = crs (shf (shf w)) i
      unfold crs
      by_cases h : i % 2 = 0
      · rw [if_pos h, if_pos (by omega)]
        rfl
      · rw [if_neg h, if_neg (by omega)]
        show w (i + 1 + 1 - 1) = w (i - 1 + 1 + 1)
        congr 1
        omega
    have ih := dot_crs m (shf (shf u)) (shf (shf v))
    rw [e]
    show crs u 0 * v 0 + (crs u 1 * v 1 + dot (shf (shf (crs u))) (shf (shf v)) (2 * m)) = -(crs v 0 * u 0 + (crs v 1 * u 1 + dot (shf (shf (crs v))) (shf (shf u)) (2 * m)))
    rw [sh u, sh v, ih]
    have a0 : crs u 0 = -u 1 := rfl
    have a1 : crs u 1 = u 0 := rfl
    have b0 : crs v 0 = -v 1 := rfl
    have b1 : crs v 1 = v 0 := rfl
    rw [a0, a1, b0, b1]
    grind
/-! ### how many leads -/
theorem PL.len_eq {p : Int} {n : Nat} {fs gs : List (List Int)} {L M : List (Nat × List Int)} (p1 : 1 < p) (hL : PL p n fs L) (hM : PL p n gs M) (e : ∀ u, Lot p (spn fs) u ↔ Lot p (spn gs) u) : L.length = M.length := by
  have sub : ∀ x ∈ vecs L, Lot p (rowsOf (vecs M)) x.2 := fun x hx => (hM.lot _).mpr ((e _).mp ((hL.lot _).mp (Lot.of ⟨x, hx, rfl⟩)))
  have sup : ∀ x ∈ vecs M, Lot p (rowsOf (vecs L)) x.2 := fun x hx => (hL.lot _).mpr ((e _).mpr ((hM.lot _).mp (Lot.of ⟨x, hx, rfl⟩)))
  have pm : (L.map (·.1)).Perm (M.map (·.1)) := by
    refine (List.perm_ext_iff_of_nodup hL.nd hM.nd).mpr fun a => ?_
    rw [← vecs_places, ← vecs_places (L := M)]
    constructor
    · intro ha
      obtain ⟨x, hx, rfl⟩ := List.mem_map.mp ha
      obtain ⟨y, hy, ey⟩ := place_in p1 hL.leads hL.ahead hM.leads hM.ahead hM.ndv sub hx
      exact List.mem_map.mpr ⟨y, hy, ey⟩
    · intro ha
      obtain ⟨x, hx, rfl⟩ := List.mem_map.mp ha
      obtain ⟨y, hy, ey⟩ := place_in p1 hM.leads hM.ahead hL.leads hL.ahead hL.ndv sup hx
      exact List.mem_map.mpr ⟨y, hy, ey⟩
  have := pm.length_eq
  simpa using this
/-- each has a place at which those ahead of it have 0, and it not -/
inductive Fresh (p : Int) : List (List Int) → Prop
  | nil : Fresh p []
  | snoc {fs : List (List Int)} {f : List Int} (q : Nat) : Fresh p fs → (∀ g ∈ fs, Cg p (vec g q) 0) → ¬ Cg p (vec f q) 0 → Fresh p (fs ++ [f])
theorem Lot.at0 {p : Int} {R : Vc → Prop} {u : Vc} {q : Nat} (h : Lot p R u) (k : ∀ v, R v → Cg p (v q) 0) : Cg p (u q) 0 := by
  induction h with
  | zero => exact Cg.rfl'
  | add c _ r ih =>
    have a := ih.add ((Cg.rfl' (a := c)).mul (k _ r))
    rw [Int.mul_zero] at a
    exact a
  | eqv _ e ih => exact (e q).symm.trans ih
theorem Fresh.pl {p : Int} {n : Nat} (p1 : 1 < p) (inv : ∀ u, 0 < u → u < p → ∃ c, c * u % p = 1) {fs : List (List Int)} (h : Fresh p fs) (hf : ∀ f ∈ fs, f.length = n ∧ Rg p f) : ∃ L, PL p n fs L ∧ L.length = fs.length := by
  induction h with
  | nil => exact ⟨[], PL.nil, rfl⟩
  | @snoc fs f q _ z nz ih =>
    obtain ⟨L, pl, ll⟩ := ih fun g hg => hf g (List.mem_append.mpr (.inl hg))
    obtain ⟨fl, fr⟩ := hf f (by simp)
    have p0 : 0 < p := by omega
    have notz : ¬ ∀ x ∈ clearL p f L, x = 0 := fun hz => nz (((pl.zero p0 fl fr).mp hz).at0 fun v hv => by
      obtain ⟨g, hg, rfl⟩ := hv
      exact z g hg)
    -- the first place that isn't 0
    have first : ∀ us : List Int, (¬ ∀ x ∈ us, x = 0) → ∃ (j : Nat) (u : Int), us[j]? = some u ∧ u ≠ 0 ∧ ∀ i, i < j → us[i]? = some 0 := by
      intro us
      induction us with
      | nil => intro h; exact absurd (fun x hx => by cases hx) h
      | cons a us ih2 =>
        intro h
        by_cases ha : a = 0
        · have h' : ¬ ∀ x ∈ us, x = 0 := fun k => h fun x hx => by
            rcases List.mem_cons.mp hx with rfl | hx
            · exact ha
            · exact k x hx
          obtain ⟨j, u, e1, e2, e3⟩ := ih2 h'
          refine ⟨j + 1, u, e1, e2, fun i hi => ?_⟩
          cases i with
          | zero => rw [ha]; rfl
          | succ i => exact e3 i (by omega)
        · exact ⟨0, a, rfl, ha, fun i hi => absurd hi (Nat.not_lt_zero _)⟩
    obtain ⟨j, u, e1, e2, e3⟩ := first _ notz
    have ur := clear_rg p0 L fr u (List.mem_of_getElem? e1)
    obtain ⟨c, hc⟩ := inv u (by omega) ur.2
    refine ⟨_, pl.step p1 fl fr e1 e2 e3 hc, ?_⟩
    rw [List.length_append, List.length_append]
    have e : (moreL p j (scaled p c (clearL p f L)) L).length = L.length := by simp [moreL]
    rw [e, ll]
    rfl
/-! ### the mirror of rows -/
structure Mir (p : Int) (n : Nat) (rs : List (List (Int × Int))) (vs : List (List Int)) : Prop where
  ker : ∀ w, Sup (2 * n) w → (Lot p (spn vs) w ↔ ∀ r ∈ rs, Cg p (dot (crs (vec (flatR r))) w (2 * n)) 0)
  bi : ∀ w, Sup (2 * n) w → (∀ v ∈ vs, Cg p (dot (crs w) (vec v) (2 * n)) 0) → Lot p (spn (rs.map flatR)) w
  cnt : ∀ K L, PL p (2 * n) (rs.map flatR) K → PL p (2 * n) vs L → L.length + K.length = 2 * n
theorem lot_both {p : Int} {R S : Vc → Prop} (h1 : ∀ v, R v → ∃ w, S w ∧ Eqv p w v) (h2 : ∀ v, S v → ∃ w, R w ∧ Eqv p w v) (u : Vc) : Lot p R u ↔ Lot p S u :=
  Lot.iff (fun v hv => let ⟨w, hw, e⟩ := h1 v hv; .eqv (Lot.of hw) e) (fun v hv => let ⟨w, hw, e⟩ := h2 v hv; .eqv (Lot.of hw) e) u
def crsF (p : Int) (rs : List (List (Int × Int))) : List (List Int) := rs.map fun r => flatR (crsP p r)
theorem crs_spn {p : Int} {rs : List (List (Int × Int))} (u : Vc) : Lot p (spn (crsF p rs)) u ↔ Lot p (crsR (spn (rs.map flatR))) u := by
  refine lot_both (fun v hv => ?_) (fun v hv => ?_) u
  · obtain ⟨f, hf, rfl⟩ := hv
    obtain ⟨r, hr, rfl⟩ := List.mem_map.mp hf
    exact ⟨_, ⟨vec (flatR r), ⟨flatR r, List.mem_map.mpr ⟨r, hr, rfl⟩, rfl⟩, rfl⟩, vec_crs.symm⟩
  · obtain ⟨w, ⟨f, hf, rfl⟩, rfl⟩ := hv
    obtain ⟨r, hr, rfl⟩ := List.mem_map.mp hf
    exact ⟨_, ⟨flatR (crsP p r), List.mem_map.mpr ⟨r, hr, rfl⟩, rfl⟩, vec_crs⟩
/-- the other number of the same pair -/
def mate (q : Nat) : Nat := if q % 2 = 0 then q + 1 else q - 1
theorem crs_mate {p : Int} (u : Vc) (q : Nat) : (Cg p (crs u (mate q)) 0 ↔ Cg p (u q) 0) := by
  unfold crs mate
  by_cases h : q % 2 = 0
  · rw [if_pos h, if_neg (by omega)]
    exact Iff.rfl
  · rw [if_neg h, if_pos (by omega)]
    have e : q - 1 + 1 = q := by omega
    rw [e]
    constructor
    · intro k
      have a := (Cg.rfl' (p := p) (a := 0)).sub k
      have e2 : (0 : Int) - -u q = u q := by omega
      rw [e2] at a
      exact a
    · intro k
      have a := (Cg.rfl' (p := p) (a := 0)).sub k
      have e2 : (0 : Int) - u q = -u q := by omega
      rw [e2] at a
      exact a
theorem crs_count {p : Int} {n : Nat} {rs : List (List (Int × Int))} {K L : List (Nat × List Int)} (p1 : 1 < p) (inv : ∀ u, 0 < u → u < p → ∃ c, c * u % p = 1) (hK : PL p (2 * n) (rs.map flatR) K) (hL : PL p (2 * n) (crsF p rs) L) : L.length = K.length := by
  have p0 : 0 < p := by omega
  have gv : ∀ x ∈ K, Eqv p (vec (flatR (crsP p (rowL x.2)))) (crs (vec x.2)) := fun x hx => by
    have e := (rowL_flat n x.2 (hK.len x hx)).1
    have a := vec_crs (p := p) (r := rowL x.2)
    rw [e] at a
    exact a
  have fresh : ∀ i, i ≤ K.length → Fresh p ((K.take i).map fun x => flatR (crsP p (rowL x.2))) := by
    intro i
    induction i with
    | zero => intro _; exact Fresh.nil
    | succ i ih =>
      intro hi
      have hi' : i < K.length := by omega
      have e : (K.take (i + 1)).map (fun x => flatR (crsP p (rowL x.2))) = (K.take i).map (fun x => flatR (crsP p (rowL x.2))) ++ [flatR (crsP p (rowL (K[i]).2))] := by
        rw [← List.take_append_getElem hi', List.map_append]
        rfl
      rw [e]
      have mi := List.getElem_mem hi'
      refine .snoc (mate (K[i]).1) (ih (by omega)) (fun g hg => ?_) ?_
      · obtain ⟨y, hy, rfl⟩ := List.mem_map.mp hg
        have my := List.mem_of_mem_take hy
        refine (gv y my _).trans ((crs_mate _ _).mpr ?_)
        have ne : y.1 ≠ (K[i]).1 := by
          have nd := hK.nd
          rw [← List.take_append_drop i K, List.map_append] at nd
          have z := (List.nodup_append.mp nd).2.2 y.1 (List.mem_map.mpr ⟨y, hy, rfl⟩) (K[i]).1 (List.mem_map.mpr ⟨K[i], List.mem_of_getElem? (i := 0) (by rw [List.getElem?_drop]; simp [hi']), rfl⟩)
          exact z
        exact hK.leads.other (y.1, vec y.2) (mem_vecs.mpr ⟨y, my, rfl⟩) ((K[i]).1, vec (K[i]).2) (mem_vecs.mpr ⟨K[i], mi, rfl⟩) ne
      · intro z
        have a := (crs_mate _ _).mp ((gv _ mi _).symm.trans z)
        exact one_zero p1 ((hK.leads.self ((K[i]).1, vec (K[i]).2) (mem_vecs.mpr ⟨K[i], mi, rfl⟩)).symm.trans a)
  have fr := fresh K.length (Nat.le_refl _)
  rw [List.take_length] at fr
  obtain ⟨M, hM, ml⟩ := fr.pl (n := 2 * n) p1 inv fun f hf => by
    obtain ⟨x, hx, rfl⟩ := List.mem_map.mp hf
    obtain ⟨e1, e2⟩ := rowL_flat n x.2 (hK.len x hx)
    refine ⟨by rw [flat_len]; unfold crsP; rw [List.length_map, e2], fun u hu => ?_⟩
    obtain ⟨w, hw, hm⟩ := List.mem_flatMap.mp hu
    obtain ⟨v, hv, rfl⟩ := List.mem_map.mp hw
    have m1 : v.1 ∈ flatR (rowL x.2) := List.mem_flatMap.mpr ⟨v, hv, by simp⟩
    rw [e1] at m1
    have m : u = -v.2 % p ∨ u = v.1 := by simpa using hm
    rcases m with e | e
    · rw [e]
      exact ⟨Int.emod_nonneg _ (by omega), Int.emod_lt_of_pos _ p0⟩
    · rw [e]
      exact hK.rg x hx _ m1
  rw [List.length_map] at ml
  rw [← ml]
  refine hL.len_eq p1 hM fun u => ?_
  rw [crs_spn]
  constructor
  · refine Lot.sub fun v hv => ?_
    obtain ⟨w, hw, rfl⟩ := hv
    have a := crs_lot ((hK.lot w).mpr (Lot.of hw))
    refine Lot.sub (fun y hy => ?_) a
    obtain ⟨x, ⟨z, hz, rfl⟩, rfl⟩ := hy
    obtain ⟨k, hk, rfl⟩ := mem_vecs.mp hz
    exact .eqv (Lot.of ⟨_, List.mem_map.mpr ⟨k, hk, rfl⟩, rfl⟩) (gv k hk)
  · refine Lot.sub fun v hv => ?_
    obtain ⟨f, hf, rfl⟩ := hv
    obtain ⟨k, hk, rfl⟩ := List.mem_map.mp hf
    refine .eqv (crs_lot ((hK.lot (vec k.2)).mp (Lot.of ⟨(k.1, vec k.2), mem_vecs.mpr ⟨k, hk, rfl⟩, rfl⟩))) (gv k hk).symm
theorem sup_crs {n : Nat} {w : Vc} (h : Sup (2 * n) w) : Sup (2 * n) (crs w) := fun i hi => by
  unfold crs
  split
  · rw [h (i + 1) (by omega)]
    rfl
  · exact h (i - 1) (by omega)
theorem mir_of {p : Int} {n : Nat} {rs : List (List (Int × Int))} {vs : List (List Int)} {L : List (Nat × List Int)} {fs : List Nat} (p1 : 1 < p) (inv : ∀ u, 0 < u → u < p → ∃ c, c * u % p = 1) (hL : PL p (2 * n) (crsF p rs) L) (hf : ∀ f, f ∈ fs ↔ f < 2 * n ∧ f ∉ L.map (·.1)) (ndf : fs.Nodup)
    (vl : vs.length = fs.length) (hv : ∀ (i f : Nat) (v : List Int), fs[i]? = some f → vs[i]? = some v → Eqv p (vec v) (frV f (vecs L)) ∧ v.length = 2 * n ∧ Rg p v) : Mir p n rs vs := by
  have hf' : ∀ f, f ∈ fs ↔ f < 2 * n ∧ ∀ x ∈ vecs L, x.1 ≠ f := fun f => by
    rw [hf f]
    constructor
    · rintro ⟨a, b⟩
      refine ⟨a, fun x hx e => b ?_⟩
      obtain ⟨y, hy, rfl⟩ := mem_vecs.mp hx
      exact List.mem_map.mpr ⟨y, hy, e⟩
    · rintro ⟨a, b⟩
      refine ⟨a, fun m => ?_⟩
      obtain ⟨y, hy, e⟩ := List.mem_map.mp m
      exact b (y.1, vec y.2) (mem_vecs.mpr ⟨y, hy, rfl⟩) e
  have plc : ∀ x ∈ vecs L, x.1 < 2 * n := fun x hx => by
    obtain ⟨y, hy, rfl⟩ := mem_vecs.mp hx
    exact hL.plc y hy
  have supL : ∀ x ∈ vecs L, Sup (2 * n) x.2 := fun x hx => by
    obtain ⟨y, hy, rfl⟩ := mem_vecs.mp hx
    exact sup_vec (hL.len y hy)
  have same : ∀ u, Lot p (spn vs) u ↔ Lot p (fun v => ∃ f ∈ fs, v = frV f (vecs L)) u := fun u => by
    refine lot_both (fun v hv' => ?_) (fun v hv' => ?_) u
    · obtain ⟨f, hf1, rfl⟩ := hv'
      obtain ⟨i, hi, rfl⟩ := List.mem_iff_getElem.mp hf1
      have hi2 : i < fs.length := by omega
      exact ⟨_, ⟨fs[i], List.getElem_mem hi2, rfl⟩, ((hv i _ _ (List.getElem?_eq_getElem hi2) (List.getElem?_eq_getElem hi)).1).symm⟩
    · obtain ⟨f, hf1, rfl⟩ := hv'
      obtain ⟨i, hi, rfl⟩ := List.mem_iff_getElem.mp hf1
      have hi2 : i < vs.length := by omega
      exact ⟨_, ⟨vs[i], List.getElem_mem hi2, rfl⟩, (hv i _ _ (List.getElem?_eq_getElem hi) (List.getElem?_eq_getElem hi2)).1⟩
  refine ⟨fun w sw => ?_, fun w sw h => ?_, fun K M hK hM => ?_⟩
  · rw [same w, fr_ker hL.leads hL.ndv plc hf' ndf sw]
    constructor
    · intro h r hr
      refine dot_lotL (R := rowsOf (vecs L)) ((hL.lot _).mpr ((crs_spn _).mpr (Lot.of ⟨vec (flatR r), ⟨flatR r, List.mem_map.mpr ⟨r, hr, rfl⟩, rfl⟩, rfl⟩))) fun v hv' => ?_
      obtain ⟨x, hx, rfl⟩ := hv'
      exact h x hx
    · intro h x hx
      refine dot_lotL (R := crsR (spn (rs.map flatR))) ((crs_spn _).mp ((hL.lot _).mp (Lot.of ⟨x, hx, rfl⟩))) fun v hv' => ?_
      obtain ⟨w', ⟨f, hf1, rfl⟩, rfl⟩ := hv'
      obtain ⟨r, hr, rfl⟩ := List.mem_map.mp hf1
      exact h r hr
  · have a := fr_back (u := crs w) hL.leads hL.ndv plc hf' supL (sup_crs sw) fun f hf1 => by
      obtain ⟨i, hi, rfl⟩ := List.mem_iff_getElem.mp hf1
      have hi2 : i < vs.length := by omega
      exact (dot_eqv _ Eqv.refl (hv i _ _ (List.getElem?_eq_getElem hi) (List.getElem?_eq_getElem hi2)).1).symm.trans (h _ (List.getElem_mem hi2))
    exact crs_back ((crs_spn _).mp ((hL.lot _).mp a))
  · have lk := crs_count p1 inv hK hL
    have fresh : ∀ i, i ≤ vs.length → Fresh p (vs.take i) := by
      intro i
      induction i with
      | zero => intro _; exact Fresh.nil
      | succ i ih =>
        intro hi
        have hi' : i < vs.length := by omega
        have hi2 : i < fs.length := by omega
        rw [← List.take_append_getElem hi']
        have mi := (hf' _).mp (List.getElem_mem hi2)
        refine .snoc fs[i] (ih (by omega)) (fun g hg => ?_) ?_
        · obtain ⟨j, hj, rfl⟩ := List.mem_iff_getElem.mp hg
          rw [List.length_take] at hj
          have hj1 : j < vs.length := by omega
          have hj2 : j < fs.length := by omega
          rw [List.getElem_take]
          refine ((hv j _ _ (List.getElem?_eq_getElem hj2) (List.getElem?_eq_getElem hj1)).1 _).trans ?_
          rw [fr_other mi.2 ((List.pairwise_iff_getElem.mp ndf) j i hj2 hi2 (by omega))]
          exact Cg.rfl'
        · intro z
          have a := ((hv i _ _ (List.getElem?_eq_getElem hi2) (List.getElem?_eq_getElem hi')).1 fs[i]).symm.trans z
          rw [fr_self mi.2] at a
          exact one_zero p1 a
    have fr := fresh vs.length (Nat.le_refl _)
    rw [List.take_length] at fr
    obtain ⟨N, hN, nl⟩ := fr.pl (n := 2 * n) p1 inv fun v hv' => by
      obtain ⟨i, hi, rfl⟩ := List.mem_iff_getElem.mp hv'
      have hi2 : i < fs.length := by omega
      exact (hv i _ _ (List.getElem?_eq_getElem hi2) (List.getElem?_eq_getElem hi)).2
    have lm := hM.len_eq p1 hN fun u => Iff.rfl
    -- free places and places of leads are all places
    have pm : (fs ++ L.map (·.1)).Perm (List.range (2 * n)) := by
      refine (List.perm_ext_iff_of_nodup ?_ List.nodup_range).mpr fun a => ?_
      · exact List.nodup_append.mpr ⟨ndf, hL.nd, fun a ha b hb e => ((hf a).mp ha).2 (by rw [e]; exact hb)⟩
      · rw [List.mem_append, List.mem_range]
        constructor
        · rintro (h | h)
          · exact ((hf a).mp h).1
          · obtain ⟨y, hy, rfl⟩ := List.mem_map.mp h
            exact hL.plc y hy
        · intro h
          by_cases m : a ∈ L.map (·.1)
          · exact .inr m
          · exact .inl ((hf a).mpr ⟨h, m⟩)
    have le := pm.length_eq
    rw [List.length_append, List.length_map, List.length_range] at le
    omega
/-- the mirror of the mirror is the lot -/
theorem mir_mir {p : Int} {n : Nat} {rs ss : List (List (Int × Int))} {vs ws : List (List Int)} (h1 : Mir p n rs vs) (h2 : Mir p n ss ws) (e : ∀ u, Lot p (spn (ss.map flatR)) u ↔ Lot p (spn vs) u) (hr : ∀ r ∈ rs, r.length = n) (hs : ∀ r ∈ ss, r.length = n) (hw : ∀ w ∈ ws, w.length = 2 * n) (u : Vc) : Lot p (spn ws) u ↔ Lot p (spn (rs.map flatR)) u := by
  have key : ∀ w, Sup (2 * n) w → (Lot p (spn ws) w ↔ Lot p (spn (rs.map flatR)) w) := fun w sw => by
    rw [h2.ker w sw]
    have neg : ∀ a : Int, Cg p a 0 → Cg p (-a) 0 := fun a k => by
      have b := (Cg.rfl' (p := p) (a := 0)).sub k
      have e2 : (0 : Int) - a = -a := by omega
      rw [e2] at b
      exact b
    constructor
    · intro h
      refine h1.bi w sw fun v hv => ?_
      refine dot_lotR ((e (vec v)).mpr (Lot.of ⟨v, hv, rfl⟩)) fun x hx => ?_
      obtain ⟨f, hf, rfl⟩ := hx
      obtain ⟨r, hr', rfl⟩ := List.mem_map.mp hf
      rw [dot_crs]
      exact neg _ (h r hr')
    · intro h r hr'
      rw [dot_crs]
      refine neg _ ?_
      have sr : Sup (2 * n) (vec (flatR r)) := sup_vec (by rw [flat_len, hs r hr'])
      have k := (h1.ker (vec (flatR r)) sr).mp ((e _).mp (Lot.of ⟨flatR r, List.mem_map.mpr ⟨r, hr', rfl⟩, rfl⟩))
      refine dot_lotL (R := crsR (spn (rs.map flatR))) (crs_lot h) fun x hx => ?_
      obtain ⟨y, ⟨f, hf, rfl⟩, rfl⟩ := hx
      obtain ⟨r2, hr2, rfl⟩ := List.mem_map.mp hf
      exact k r2 hr2
  refine Lot.iff (fun v hv => ?_) (fun v hv => ?_) u
  · obtain ⟨f, hf, rfl⟩ := hv
    exact (key _ (sup_vec (hw f hf))).mp (Lot.of ⟨f, hf, rfl⟩)
  · obtain ⟨f, hf, rfl⟩ := hv
    obtain ⟨r, hr', rfl⟩ := List.mem_map.mp hf
    exact (key _ (sup_vec (by rw [flat_len, hr r hr']))).mpr (Lot.of ⟨_, hf, rfl⟩)
end Lin
set_option linter.all false
/-! zip of two or three things, each a list or a tuple, of one length -/
namespace Zm
open PySem PySem.Spec PyProof.Rows L2
inductive Kd where
  | l
  | t
def Sq (k : Kd) (K : PySem.W.Frag) (H : Hp) (a : Addr) (xs : List V) : Prop := match k with
  | .l => SqL K H a xs
  | .t => SqT K H a xs
def Itr (k : Kd) (h : Heap) (it a : Addr) (i : Nat) : Prop := match k with
  | .l => h.IsListIter it a i
  | .t => h.IsTupleIter it a i
def Sqh (k : Kd) (h : Heap) (a : Addr) (its : Array Value) : Prop := match k with
  | .l => h.IsList a its
  | .t => h.IsTuple a its
theorem drw {pr : Program} {w : World} {A : Around} (k : Kd) (hh : A.handled = none) {it a : Addr} (ne : a ≠ it) (its : Array Value) :
    Draws pr w A it [it, a] its.size (fun i v => its[i]? = some v) (fun i h => Itr k h it a i ∧ Sqh k h a its) := match k with
  | .l => Draws.list hh it a ne its
  | .t => Draws.tuple hh it a ne its
theorem bgn (k : Kd) (a : Addr) (its : Array Value) : ∃ o, Begins (.ref a) o (fun h => Sqh k h a its) ∧ ∀ (h : Heap) (it : Addr), h.get? it = some o → Itr k h it a 0 := match k with
  | .l => ⟨_, begins_list a its, fun h it e => ⟨_, e, rfl, rfl⟩⟩
  | .t => ⟨_, begins_tuple a its, fun h it e => ⟨_, e, rfl, rfl⟩⟩
section
variable {X : Cx} {pn : List (Addr × Obj)} {σ : L2.St} {H : Hp} {s : Shared} {a : Addr} {xs ys : List V} {k : Kd}
theorem at_ (I : Inv X pn σ H s) (q : Sq k X.K H a xs) : ∃ its : List Value, Vals xs its ∧ Sqh k s.heap a its.toArray ∧ a < s.heap.objs.size := by
  cases k with
  | l =>
    obtain ⟨its, r, p, _⟩ := I.list q
    exact ⟨its, r, p.isList, p.lt⟩
  | t =>
    obtain ⟨its, r, p, _⟩ := I.tuple q
    obtain ⟨o, ho, _⟩ := id p
    exact ⟨its, r, p, Heap.lt_size ho⟩
theorem inj (I : Inv X pn σ H s) (q : Sq k X.K H a xs) (q' : Sq k X.K H a ys) : xs = ys := by
  cases k with
  | l => exact I.list_inj q q'
  | t => exact I.tuple_inj q q'
theorem itr_keep {h h' : Heap} {it : Addr} {i : Nat} (x : Itr k h it a i) (kp : ∀ o, h.get? it = some o → h'.get? it = some o) : Itr k h' it a i := by
  cases k with
  | l => exact x.at kp
  | t => exact x.at kp
theorem itr_obj {h : Heap} {it : Addr} {i : Nat} (x : Itr k h it a i) : ∃ o, h.get? it = some o ∧ ∀ v, o.data ≠ .cell v := by
  cases k with
  | l =>
    obtain ⟨o, e, _, d⟩ := x
    exact ⟨o, e, fun v q => by rw [d] at q; cases q⟩
  | t =>
    obtain ⟨o, e, _, d⟩ := x
    exact ⟨o, e, fun v q => by rw [d] at q; cases q⟩
end
/-! ### two -/
def It2 (j k : Kd) (K : PySem.W.Frag) (a b : Addr) : It where
  go i H := ∃ (xs ys : List V) (x y : V), Sq j K H a xs ∧ Sq k K H b ys ∧ xs[i]? = some x ∧ ys[i]? = some y
  yld i H v H' := ∃ T x y, v = .ref T ∧ H T = none ∧ H' = upd H T (.tup [x, y]) ∧ (∀ xs, Sq j K H a xs → xs[i]? = some x) ∧ ∀ ys, Sq k K H b ys → ys[i]? = some y
  stop i H := ∃ xs ys : List V, Sq j K H a xs ∧ Sq k K H b ys ∧ xs.length = i ∧ ys.length = i
theorem mem5 {z a b c d x : Addr} (h : x ∈ [z, a, b, c, d]) : x = z ∨ x = a ∨ x = b ∨ x = c ∨ x = d := by simpa using h
theorem trn2 {P : Program} {w : World} {K : PySem.W.Frag} {j k : Kd} {es : List Expr} {kk : Nat} {tp : Pos} {a b z TI TO i1 i2 : Addr} (S : ZipSep2 z TI TO i1 i2 [i1, a] [i2, b]) (n1 : a ≠ i1) (n2 : b ≠ i2) :
    Turn P w K (.Tuple es kk tp) (It2 j k K a b) [z, TI, TO, i1, i2] z (fun i h => IsZip h z TI TO .none ∧ IsTupOf2 h TI (.ref i1) (.ref i2) ∧ (∃ x y, IsTupOf2 h TO x y) ∧ Itr j h i1 a i ∧ Itr k h i2 b i) where
  mem := by simp
  obj := fun i h st c hc => by
    obtain ⟨hz, hTI, ⟨x, y, hTO⟩, h1, h2⟩ := st
    rcases mem5 hc with rfl | rfl | rfl | rfl | rfl
    · exact ⟨_, hz, fun v e => nomatch e⟩
    · exact ⟨_, hTI, fun v e => nomatch e⟩
    · exact ⟨_, hTO, fun v e => nomatch e⟩
    · exact itr_obj h1
    · exact itr_obj h2
  keep := fun i h h' st kp => by
    obtain ⟨hz, hTI, ⟨x, y, hTO⟩, h1, h2⟩ := st
    exact ⟨kp z (by simp) _ hz, kp TI (by simp) _ hTI, ⟨x, y, kp TO (by simp) _ hTO⟩, itr_keep h1 fun o e => kp i1 (by simp) o e, itr_keep h2 fun o e => kp i2 (by simp) o e⟩
  item := by
    intro X eP ew eK calm i pn s σ H E I hf st gg
    subst eP ew eK
    obtain ⟨hz, hTI, hTO, h1, h2⟩ := st
    obtain ⟨xs, ys, x, y, qx, qy, hx, hy⟩ := gg
    obtain ⟨us, rv, p1, _⟩ := at_ I qx
    obtain ⟨vs, rv2, p2, _⟩ := at_ I qy
    have hh : X.A.in1.handled = none := I.ok.hd calm
    have l1 : i < us.toArray.size := by
      have := (List.getElem?_eq_some_iff.mp hx).1
      rw [List.size_toArray, ← rv.length]
      exact this
    have l2 : i < vs.toArray.size := by
      have := (List.getElem?_eq_some_iff.mp hy).1
      rw [List.size_toArray, ← rv2.length]
      exact this
    refine (GoesN.zip2 S (drw j hh n1 us.toArray) (drw k hh n2 vs.toArray)).goes i s (fun u s2 => ∃ x H', Inv X pn σ H' s2 ∧ RelV x u ∧ (It2 j k X.K a b).yld i H x H' ∧ _ ∧ ∀ c ∈ _, H' c = none) E (by omega) ⟨hz, hTI, hTO, ⟨h1, p1⟩, h2, p2⟩ fun v h' tk Y st' kp _ => ?_
    obtain ⟨T, u, u2, rfl, le, hu, hu2, hT⟩ := Y
    obtain ⟨hz', hTI', hTO', ⟨h1', _⟩, h2', _⟩ := st'
    obtain ⟨w1, e1, r1⟩ := rv.get hx
    obtain ⟨w2, e2, r2⟩ := rv2.get hy
    have c1 : w1 = u := by
      have z1 : us[i]? = some u := by simpa using hu
      rw [e1] at z1
      exact Option.some.inj z1
    have c2 : w2 = u2 := by
      have z2 : vs[i]? = some u2 := by simpa using hu2
      rw [e2] at z2
      exact Option.some.inj z2
    subst c1 c2
    have fresh : H T = none := I.hok.fresh le
    have new : ObjOk X.prog X.w (upd H T (.tup [x, y])) h' T (.tup [x, y]) := ⟨by show 2 ≤ sizeLine; decide, [w1, w2], .cons r1 (.cons r2 .nil), hT⟩
    have I1 := I.turnedNew (t' := tk) (ch := [z, TI, TO, i1, i2]) (fun c o n e => kp c o (fun m => n (by
      have m' : c = z ∨ c = TO ∨ c = i1 ∨ c = i2 := by simpa using m
      rcases m' with q | q | q | q <;> (rw [q]; simp))) e) hf le new
    refine ⟨.ref T, _, I1, rfl, ⟨T, x, y, rfl, fresh, rfl, fun l hl => by rw [inj I hl qx]; exact hx, fun l hl => by rw [inj I hl qy]; exact hy⟩, ⟨hz', hTI', hTO', h1', h2'⟩, fun c hc => ?_⟩
    have lt : c < s.heap.objs.size := by
      rcases mem5 hc with rfl | rfl | rfl | rfl | rfl
      · exact Heap.lt_size hz
      · exact Heap.lt_size hTI
      · obtain ⟨_, _, e⟩ := hTO
        exact Heap.lt_size e
      · obtain ⟨_, e, _⟩ := itr_obj h1
        exact Heap.lt_size e
      · obtain ⟨_, e, _⟩ := itr_obj h2
        exact Heap.lt_size e
    rw [upd_ne (Nat.ne_of_lt (Nat.lt_of_lt_of_le lt le))]
    exact (hf c hc).1
  done := by
    intro X eP ew eK calm i pn s σ H E I hf st gg
    subst eP ew eK
    obtain ⟨hz, hTI, hTO, h1, h2⟩ := st
    obtain ⟨xs, ys, qx, qy, hx, hy⟩ := gg
    obtain ⟨us, rv, p1, _⟩ := at_ I qx
    obtain ⟨vs, rv2, p2, _⟩ := at_ I qy
    have hh : X.A.in1.handled = none := I.ok.hd calm
    have e : i = min us.toArray.size vs.toArray.size := by
      have l1 := rv.length
      have l2 := rv2.length
      simp
      omega
    subst e
    exact (GoesN.zip2 (elts := es) (x1 := kk) (pos := tp) S (drw j hh n1 us.toArray) (drw k hh n2 vs.toArray)).stops s (fun s1 => Inv X pn σ H s1) E ⟨hz, hTI, hTO, ⟨h1, p1⟩, h2, p2⟩ fun h' tk kp _ => I.turnedL (t' := tk) (ch := [z, TI, TO, i1, i2]) (fun c o n e => kp c o (fun m => n (by
      have m' : c = z ∨ c = TO ∨ c = i1 ∨ c = i2 := by simpa using m
      rcases m' with q | q | q | q <;> (rw [q]; simp))) e) hf
  self := fun A i s Q E st h => wpAny_pyIter_zip st.1 h
def iZip2 (j k : Kd) (K : PySem.W.Frag) (ta : TA) : TI := fun σ H R => ta σ H fun vs H1 => ∃ a b xs ys, vs = [.ref a, .ref b] ∧ Sq j K H1 a xs ∧ Sq k K H1 b ys ∧ R (It2 j k K a b) H1
theorem pi_zip2 {X : Cx} {e e2 : Expr} {ta : TA} {p pos tp : Pos} {es : List Expr} {kk : Nat} (j k : Kd) (hg : Gl X "zip") (hm : X.mg "zip" = none) (ha : PA X [e, e2] ta)
    (hs : starEach [e, e2] X.env = (false, eval e X.env) :: starEach [e2] X.env := by rfl) (hpl : (backTo pos (starEach [e2] X.env)).any (·.1) = false := by rfl) :
    PI X (.Tuple es kk tp) (.Call (.Name "zip" p) [e, e2] [] pos) (iZip2 j k X.K ta) := by
  refine ⟨fun pn s σ H R I h => ?_⟩
  refine Call_ (ld_blt I hg hm PyProof.Rows.boot_zip (PyProof.Rows.callWith_type1 (thn (ha.run pos pn s σ H _ I h) fun us s1 ⟨vs, H1, I1, r1, q1⟩ => ?_) hs hpl))
  obtain ⟨a, b, xs, ys, ex, qx, qy, q⟩ := q1
  subst ex
  cases r1 with
  | cons r rr =>
   cases rr with
   | cons r' rr =>
    cases rr
    cases r
    cases r'
    obtain ⟨us, rv, p1, la⟩ := at_ I1 qx
    obtain ⟨vs, rv2, p2, lb⟩ := at_ I1 qy
    obtain ⟨o1, B1, f1⟩ := bgn j a us.toArray
    obtain ⟨o2, B2, f2⟩ := bgn k b vs.toArray
    refine zip_begins2 B1 B2 p1 p2 fun h' hz hTI hTO g1 g2 hsz kp => wpAny_pyIter_zip hz ?_
    have S := zip_sep2 (N := s1.heap.objs.size) (fp1 := [a]) (fp2 := [b]) (fun c hc => by rw [List.mem_singleton.mp hc]; exact la) (fun c hc => by rw [List.mem_singleton.mp hc]; exact lb)
    have ne1 : a ≠ s1.heap.objs.size := Nat.ne_of_lt la
    have ne2 : b ≠ s1.heap.objs.size + 1 := Nat.ne_of_lt (Nat.lt_succ_of_lt lb)
    refine ⟨_, _, _, _, H1, rfl, I1.kept (t' := s1.toks) kp, trn2 (j := j) (k := k) S ne1 ne2, ⟨hz, hTI, ⟨_, _, hTO⟩, f1 _ _ g1, f2 _ _ g2⟩, fun c hc => ?_, q⟩
    have le : s1.heap.objs.size ≤ c := by
      rcases mem5 hc with rfl | rfl | rfl | rfl | rfl
      · exact Nat.le_add_right _ _
      · exact Nat.le_add_right _ _
      · exact Nat.le_add_right _ _
      · exact Nat.le_refl _
      · exact Nat.le_add_right _ _
    exact I1.fpOk le (I1.hok.fresh le)
def iZipK (K : PySem.W.Frag) (ta : TA) : TI := fun σ H R => ta σ H fun vs H1 => ∃ j k a b xs ys, vs = [.ref a, .ref b] ∧ Sq j K H1 a xs ∧ Sq k K H1 b ys ∧ R (It2 j k K a b) H1
theorem pi_zipK {X : Cx} {e e2 : Expr} {ta : TA} {p pos tp : Pos} {es : List Expr} {kk : Nat} (hg : Gl X "zip") (hm : X.mg "zip" = none) (ha : PA X [e, e2] ta)
    (hs : starEach [e, e2] X.env = (false, eval e X.env) :: starEach [e2] X.env := by rfl) (hpl : (backTo pos (starEach [e2] X.env)).any (·.1) = false := by rfl) :
    PI X (.Tuple es kk tp) (.Call (.Name "zip" p) [e, e2] [] pos) (iZipK X.K ta) := by
  refine ⟨fun pn s σ H R I h => ?_⟩
  refine Call_ (ld_blt I hg hm PyProof.Rows.boot_zip (PyProof.Rows.callWith_type1 (thn (ha.run pos pn s σ H _ I h) fun us s1 ⟨vs, H1, I1, r1, q1⟩ => ?_) hs hpl))
  obtain ⟨j, k, a, b, xs, ys, ex, qx, qy, q⟩ := q1
  subst ex
  cases r1 with
  | cons r rr =>
   cases rr with
   | cons r' rr =>
    cases rr
    cases r
    cases r'
    obtain ⟨us, rv, p1, la⟩ := at_ I1 qx
    obtain ⟨vs, rv2, p2, lb⟩ := at_ I1 qy
    obtain ⟨o1, B1, f1⟩ := bgn j a us.toArray
    obtain ⟨o2, B2, f2⟩ := bgn k b vs.toArray
    refine zip_begins2 B1 B2 p1 p2 fun h' hz hTI hTO g1 g2 hsz kp => wpAny_pyIter_zip hz ?_
    have S := zip_sep2 (N := s1.heap.objs.size) (fp1 := [a]) (fp2 := [b]) (fun c hc => by rw [List.mem_singleton.mp hc]; exact la) (fun c hc => by rw [List.mem_singleton.mp hc]; exact lb)
    have ne1 : a ≠ s1.heap.objs.size := Nat.ne_of_lt la
    have ne2 : b ≠ s1.heap.objs.size + 1 := Nat.ne_of_lt (Nat.lt_succ_of_lt lb)
    refine ⟨_, _, _, _, H1, rfl, I1.kept (t' := s1.toks) kp, trn2 (j := j) (k := k) S ne1 ne2, ⟨hz, hTI, ⟨_, _, hTO⟩, f1 _ _ g1, f2 _ _ g2⟩, fun c hc => ?_, q⟩
    have le : s1.heap.objs.size ≤ c := by
      rcases mem5 hc with rfl | rfl | rfl | rfl | rfl
      · exact Nat.le_add_right _ _
      · exact Nat.le_add_right _ _
      · exact Nat.le_add_right _ _
      · exact Nat.le_refl _
      · exact Nat.le_add_right _ _
    exact I1.fpOk le (I1.hok.fresh le)
/-! ### walks -/
section
variable {K : PySem.W.Frag} {a b : Addr} {xs ys : List V} {j k : Kd}
theorem walk2 (hl : xs.length = ys.length) : Walk (It2 j k K a b) xs.length (fun H => Sq j K H a xs ∧ Sq k K H b ys) (YPair (fun i => xs[i]?) (fun i => ys[i]?)) := by
  refine ⟨fun i _ hi q => ?_, fun _ q => ⟨xs, ys, q.1, q.2, rfl, hl.symm⟩, fun i H v H' _ q y => ?_⟩
  · have h2 : i < ys.length := by omega
    exact ⟨xs, ys, xs[i], ys[i], q.1, q.2, by simp [hi], by simp [h2]⟩
  · obtain ⟨T, x, z, h1, h2, h3, h4, h5⟩ := y
    exact ⟨T, x, z, h1, h2, h3, h4 xs q.1, h5 ys q.2⟩
/-- a list or a tuple, item by item -/
def Itq (k : Kd) (K : PySem.W.Frag) (a : Addr) : It := match k with
  | .l => Itl K a
  | .t => Itt K a
theorem walkq : Walk (Itq k K a) xs.length (fun H => Sq k K H a xs) (YAt xs) := match k with
  | .l => walk_list
  | .t => walk_tup
end
def iKd (K : PySem.W.Frag) (te : TE) : TI := fun σ H R => te σ H fun x H1 => ∃ a k xs, x = .ref a ∧ Sq k K H1 a xs ∧ R (Itq k K a) H1
theorem pi_kd {X : Cx} {tg e : Expr} {te : TE} (he : PE X e te) : PI X tg e (iKd X.K te) := by
  refine ⟨fun pn s σ H R I h => ?_⟩
  refine thn (he.run pn s σ H _ I h) fun u s1 ⟨x, H1, I1, r, a, k, xs, ex, q, R1⟩ => ?_
  subst ex
  obtain rfl : u = Value.ref a := r
  obtain ⟨us, rv, p, la⟩ := at_ I1 q
  obtain ⟨o, B, f⟩ := bgn k a us.toArray
  refine B.iter _ _ _ _ s1 _ p ?_
  have up : ∀ c ob, s1.heap.get? c = some ob → (s1.heap.push o).get? c = some ob := fun c ob e => Heap.get?_push_of_some _ e
  have fp : ∀ c ∈ [s1.heap.objs.size], FpOk X pn H1 c := fun c hc => by
    rw [List.mem_singleton.mp hc]
    exact I1.fpOk (Nat.le_refl _) (I1.hok.fresh (Nat.le_refl _))
  have g := f _ _ (Heap.get?_push_size s1.heap B.free)
  cases k with
  | l => exact ⟨_, _, _, _, H1, rfl, I1.kept (t' := s1.toks) up, turn_list a _, g, fp, R1⟩
  | t => exact ⟨_, _, _, _, H1, rfl, I1.kept (t' := s1.toks) up, turn_tuple a _, g, fp, R1⟩
section
variable {J : It} {n : Nat} {G : Hp → Prop} {Y : Nat → Hp → V → Hp → Prop}
/-- a dict comprehension over a walk -/
theorem dc_it (w : Walk J n G Y) {g : TG} {tt : TT} {tk tv : TE} {vs : List Nat} {σ : L2.St} {H1 : Hp} {D : Addr} {Qd : Hp → Prop} (Pv : Nat → Hp → Prop) (h0 : Pv 0 (upd H1 D (.dK []))) (hG : ∀ i H, i ≤ n → Pv i H → G H)
    (hs : ∀ i x H H', i < n → Pv i H → Y i H x H' → g x (wipe σ vs) H' fun σ2 H2 => wipe σ2 vs = wipe σ vs ∧ tt σ2 H2 fun b H3 =>
      if b = true then tk σ2 H3 fun y H4 => tv σ2 H4 fun z H5 => ∃ kvs k, y = kV k ∧ H5 D = some (.dK kvs) ∧ kvs.length < sizeLine ∧ Pv (i + 1) (upd H5 D (.dK (putK kvs k z))) else Pv (i + 1) H3) (hd : ∀ H, Pv n H → Qd H) :
    ∃ W : Nat → Nat → Hp → Prop, (∃ m, W 0 m (upd H1 D (.dK []))) ∧ ∀ i m H, W i m H →
      (J.stop i H ∧ Qd H) ∨ (J.go i H ∧ ∃ Nx : Hp → Prop, (∀ H', Nx H' → ∃ m', m' < m ∧ W (i + 1) m' H') ∧ ∀ x H', J.yld i H x H' → g x (wipe σ vs) H' fun σ2 H2 => wipe σ2 vs = wipe σ vs ∧ tt σ2 H2 fun b H3 =>
        if b = true then tk σ2 H3 fun y H4 => tv σ2 H4 fun z H5 => ∃ kvs k, y = kV k ∧ H5 D = some (.dK kvs) ∧ kvs.length < sizeLine ∧ Nx (upd H5 D (.dK (putK kvs k z))) else Nx H3) := by
  refine ⟨fun i m H => m + i = n ∧ Pv i H, ⟨n, rfl, h0⟩, ?_⟩
  rintro i m H ⟨e, p⟩
  have q := hG i H (by omega) p
  cases m with
  | zero =>
    have e' : i = n := by omega
    subst e'
    exact .inl ⟨w.stops H q, hd H p⟩
  | succ m => exact .inr ⟨w.goes i H (by omega) q, Pv (i + 1), fun H' p' => ⟨m, by omega, by omega, p'⟩, fun x H' y => hs i x H H' (by omega) p (w.yields i H x H' (by omega) q y)⟩
end
end Zm
set_option linter.all false
/-! zip of three things, each a list or a tuple, of one length -/
namespace Z3
open PySem PySem.Spec PyProof.Rows L2 Zm
def It3 (j k l : Kd) (K : PySem.W.Frag) (a b c : Addr) : It where
  go i H := ∃ (xs ys zs : List V) (x y z : V), Sq j K H a xs ∧ Sq k K H b ys ∧ Sq l K H c zs ∧ xs[i]? = some x ∧ ys[i]? = some y ∧ zs[i]? = some z
  yld i H v H' := ∃ T x y z, v = .ref T ∧ H T = none ∧ H' = upd H T (.tup [x, y, z]) ∧ (∀ xs, Sq j K H a xs → xs[i]? = some x) ∧ (∀ ys, Sq k K H b ys → ys[i]? = some y) ∧ ∀ zs, Sq l K H c zs → zs[i]? = some z
  stop i H := ∃ xs ys zs : List V, Sq j K H a xs ∧ Sq k K H b ys ∧ Sq l K H c zs ∧ xs.length = i ∧ ys.length = i ∧ zs.length = i
theorem mem6 {z a b c d e x : Addr} (h : x ∈ [z, a, b, c, d, e]) : x = z ∨ x = a ∨ x = b ∨ x = c ∨ x = d ∨ x = e := by simpa using h
theorem old6 {z TI TO i1 i2 i3 q : Addr} (h : q ∈ [z, TO, i1, i2, i3]) : q ∈ [z, TI, TO, i1, i2, i3] := by
  simp at h ⊢
  rcases h with q | q | q | q | q <;> simp [q]
set_option maxHeartbeats 1000000 in
theorem trn3 {P : Program} {w : World} {K : PySem.W.Frag} {j k l : Kd} {es : List Expr} {kk : Nat} {tp : Pos} {a b c z TI TO i1 i2 i3 : Addr} (S : ZipSep3 z TI TO i1 i2 i3 [i1, a] [i2, b] [i3, c]) (n1 : a ≠ i1) (n2 : b ≠ i2) (n3 : c ≠ i3) :
    Turn P w K (.Tuple es kk tp) (It3 j k l K a b c) [z, TI, TO, i1, i2, i3] z (fun i h => IsZip h z TI TO .none ∧ IsTupOf3 h TI (.ref i1) (.ref i2) (.ref i3) ∧ (∃ x y u, IsTupOf3 h TO x y u) ∧ Itr j h i1 a i ∧ Itr k h i2 b i ∧ Itr l h i3 c i) where
  mem := by simp
  obj := fun i h st q hq => by
    obtain ⟨hz, hTI, ⟨x, y, u, hTO⟩, h1, h2, h3⟩ := st
    rcases mem6 hq with rfl | rfl | rfl | rfl | rfl | rfl
    · exact ⟨_, hz, fun v e => nomatch e⟩
    · exact ⟨_, hTI, fun v e => nomatch e⟩
    · exact ⟨_, hTO, fun v e => nomatch e⟩
    · exact itr_obj h1
    · exact itr_obj h2
    · exact itr_obj h3
  keep := fun i h h' st kp => by
    obtain ⟨hz, hTI, ⟨x, y, u, hTO⟩, h1, h2, h3⟩ := st
    exact ⟨kp z (by simp) _ hz, kp TI (by simp) _ hTI, ⟨x, y, u, kp TO (by simp) _ hTO⟩, itr_keep h1 fun o e => kp i1 (by simp) o e, itr_keep h2 fun o e => kp i2 (by simp) o e, itr_keep h3 fun o e => kp i3 (by simp) o e⟩
  item := by
    intro X eP ew eK calm i pn s σ H E I hf st gg
    subst eP ew eK
    obtain ⟨hz, hTI, hTO, h1, h2, h3⟩ := st
    obtain ⟨xs, ys, zs, x, y, u, qx, qy, qu, hx, hy, hu0⟩ := gg
    obtain ⟨us, rv, p1, _⟩ := at_ I qx
    obtain ⟨vs, rv2, p2, _⟩ := at_ I qy
    obtain ⟨ws, rv3, p3, _⟩ := at_ I qu
    have hh : X.A.in1.handled = none := I.ok.hd calm
    have l1 : i < us.toArray.size := by
      have := (List.getElem?_eq_some_iff.mp hx).1
      rw [List.size_toArray, ← rv.length]
      exact this
    have l2 : i < vs.toArray.size := by
      have := (List.getElem?_eq_some_iff.mp hy).1
      rw [List.size_toArray, ← rv2.length]
      exact this
    have l3 : i < ws.toArray.size := by
      have := (List.getElem?_eq_some_iff.mp hu0).1
      rw [List.size_toArray, ← rv3.length]
      exact this
    refine (GoesN.zip3 S (drw j hh n1 us.toArray) (drw k hh n2 vs.toArray) (drw l hh n3 ws.toArray)).goes i s (fun u s2 => ∃ x H', Inv X pn σ H' s2 ∧ RelV x u ∧ (It3 j k l X.K a b c).yld i H x H' ∧ _ ∧ ∀ q ∈ _, H' q = none) E (by omega) ⟨hz, hTI, hTO, ⟨h1, p1⟩, ⟨h2, p2⟩, h3, p3⟩ fun v h' tk Y st' kp _ => ?_
    obtain ⟨T, u1, u2, u3, rfl, le, hu, hu2, hu3, hT⟩ := Y
    obtain ⟨hz', hTI', hTO', ⟨h1', _⟩, ⟨h2', _⟩, h3', _⟩ := st'
    obtain ⟨w1, e1, r1⟩ := rv.get hx
    obtain ⟨w2, e2, r2⟩ := rv2.get hy
    obtain ⟨w3, e3, r3⟩ := rv3.get hu0
    have c1 : w1 = u1 := by
      have z1 : us[i]? = some u1 := by simpa using hu
      rw [e1] at z1
      exact Option.some.inj z1
    have c2 : w2 = u2 := by
      have z2 : vs[i]? = some u2 := by simpa using hu2
      rw [e2] at z2
      exact Option.some.inj z2
    have c3 : w3 = u3 := by
      have z3 : ws[i]? = some u3 := by simpa using hu3
      rw [e3] at z3
      exact Option.some.inj z3
    subst c1 c2 c3
    have fresh : H T = none := I.hok.fresh le
    have new : ObjOk X.prog X.w (upd H T (.tup [x, y, u])) h' T (.tup [x, y, u]) := ⟨by show 3 ≤ sizeLine; decide, [w1, w2, w3], .cons r1 (.cons r2 (.cons r3 .nil)), hT⟩
    have I1 := I.turnedNew (t' := tk) (ch := [z, TI, TO, i1, i2, i3]) (fun q o n e => kp q o (fun m => n (old6 m)) e) hf le new
    refine ⟨.ref T, _, I1, rfl, ⟨T, x, y, u, rfl, fresh, rfl, fun l hl => by rw [inj I hl qx]; exact hx, fun l hl => by rw [inj I hl qy]; exact hy, fun l hl => by rw [inj I hl qu]; exact hu0⟩, ⟨hz', hTI', hTO', h1', h2', h3'⟩, fun q hq => ?_⟩
    have lt : q < s.heap.objs.size := by
      rcases mem6 hq with rfl | rfl | rfl | rfl | rfl | rfl
      · exact Heap.lt_size hz
      · exact Heap.lt_size hTI
      · obtain ⟨_, _, _, e⟩ := hTO
        exact Heap.lt_size e
      · obtain ⟨_, e, _⟩ := itr_obj h1
        exact Heap.lt_size e
      · obtain ⟨_, e, _⟩ := itr_obj h2
        exact Heap.lt_size e
      · obtain ⟨_, e, _⟩ := itr_obj h3
        exact Heap.lt_size e
    rw [upd_ne (Nat.ne_of_lt (Nat.lt_of_lt_of_le lt le))]
    exact (hf q hq).1
  done := by
    intro X eP ew eK calm i pn s σ H E I hf st gg
    subst eP ew eK
    obtain ⟨hz, hTI, hTO, h1, h2, h3⟩ := st
    obtain ⟨xs, ys, zs, qx, qy, qu, hx, hy, hu⟩ := gg
    obtain ⟨us, rv, p1, _⟩ := at_ I qx
    obtain ⟨vs, rv2, p2, _⟩ := at_ I qy
    obtain ⟨ws, rv3, p3, _⟩ := at_ I qu
    have hh : X.A.in1.handled = none := I.ok.hd calm
    have e : i = min (min us.toArray.size vs.toArray.size) ws.toArray.size := by
      have l1 := rv.length
      have l2 := rv2.length
      have l3 := rv3.length
      simp
      omega
    subst e
    exact (GoesN.zip3 (elts := es) (x1 := kk) (pos := tp) S (drw j hh n1 us.toArray) (drw k hh n2 vs.toArray) (drw l hh n3 ws.toArray)).stops s (fun s1 => Inv X pn σ H s1) E ⟨hz, hTI, hTO, ⟨h1, p1⟩, ⟨h2, p2⟩, h3, p3⟩ fun h' tk kp _ => I.turnedL (t' := tk) (ch := [z, TI, TO, i1, i2, i3]) (fun q o n e => kp q o (fun m => n (old6 m)) e) hf
  self := fun A i s Q E st h => wpAny_pyIter_zip st.1 h
def iZip3 (K : PySem.W.Frag) (ta : TA) : TI := fun σ H R => ta σ H fun vs H1 => ∃ j k l a b c xs ys zs, vs = [.ref a, .ref b, .ref c] ∧ Sq j K H1 a xs ∧ Sq k K H1 b ys ∧ Sq l K H1 c zs ∧ R (It3 j k l K a b c) H1
theorem pi_zip3 {X : Cx} {e e2 e3 : Expr} {ta : TA} {p pos tp : Pos} {es : List Expr} {kk : Nat} (hg : Gl X "zip") (hm : X.mg "zip" = none) (ha : PA X [e, e2, e3] ta)
    (hs : starEach [e, e2, e3] X.env = (false, eval e X.env) :: starEach [e2, e3] X.env := by rfl) (hpl : (backTo pos (starEach [e2, e3] X.env)).any (·.1) = false := by rfl) :
    PI X (.Tuple es kk tp) (.Call (.Name "zip" p) [e, e2, e3] [] pos) (iZip3 X.K ta) := by
  refine ⟨fun pn s σ H R I h => ?_⟩
  refine Call_ (ld_blt I hg hm PyProof.Rows.boot_zip (PyProof.Rows.callWith_type1 (thn (ha.run pos pn s σ H _ I h) fun us s1 ⟨vs, H1, I1, r1, q1⟩ => ?_) hs hpl))
  obtain ⟨j, k, l, a, b, c, xs, ys, zs, ex, qx, qy, qu, q⟩ := q1
  subst ex
  cases r1 with
  | cons r rr =>
   cases rr with
   | cons r' rr =>
    cases rr with
    | cons r'' rr =>
    cases rr
    cases r
    cases r'
    cases r''
    obtain ⟨us, rv, p1, la⟩ := at_ I1 qx
    obtain ⟨vs, rv2, p2, lb⟩ := at_ I1 qy
    obtain ⟨ws, rv3, p3, lc⟩ := at_ I1 qu
    obtain ⟨o1, B1, f1⟩ := bgn j a us.toArray
    obtain ⟨o2, B2, f2⟩ := bgn k b vs.toArray
    obtain ⟨o3, B3, f3⟩ := bgn l c ws.toArray
    refine zip_begins3 B1 B2 B3 p1 p2 p3 fun h' hz hTI hTO g1 g2 g3 hsz kp => wpAny_pyIter_zip hz ?_
    have S := zip_sep3 (N := s1.heap.objs.size) (fp1 := [a]) (fp2 := [b]) (fp3 := [c]) (fun q hq => by rw [List.mem_singleton.mp hq]; exact la) (fun q hq => by rw [List.mem_singleton.mp hq]; exact lb) (fun q hq => by rw [List.mem_singleton.mp hq]; exact lc)
    have ne1 : a ≠ s1.heap.objs.size := Nat.ne_of_lt la
    have ne2 : b ≠ s1.heap.objs.size + 1 := Nat.ne_of_lt (Nat.lt_succ_of_lt lb)
    have ne3 : c ≠ s1.heap.objs.size + 2 := Nat.ne_of_lt (Nat.lt_succ_of_lt (Nat.lt_succ_of_lt lc))
    refine ⟨_, _, _, _, H1, rfl, I1.kept (t' := s1.toks) kp, trn3 (j := j) (k := k) (l := l) S ne1 ne2 ne3, ⟨hz, hTI, ⟨_, _, _, hTO⟩, f1 _ _ g1, f2 _ _ g2, f3 _ _ g3⟩, fun q hq => ?_, q⟩
    have le : s1.heap.objs.size ≤ q := by
      rcases mem6 hq with rfl | rfl | rfl | rfl | rfl | rfl
      · exact Nat.le_add_right _ _
      · exact Nat.le_add_right _ _
      · exact Nat.le_add_right _ _
      · exact Nat.le_refl _
      · exact Nat.le_add_right _ _
      · exact Nat.le_add_right _ _
    exact I1.fpOk le (I1.hok.fresh le)
def Y3 (xs ys zs : List V) : Nat → Hp → V → Hp → Prop := fun i H v H' => ∃ T x y z, v = .ref T ∧ H T = none ∧ H' = upd H T (.tup [x, y, z]) ∧ xs[i]? = some x ∧ ys[i]? = some y ∧ zs[i]? = some z
theorem walk3 {K : PySem.W.Frag} {a b c : Addr} {xs ys zs : List V} {j k l : Kd} (h1 : xs.length = ys.length) (h2 : xs.length = zs.length) : Walk (It3 j k l K a b c) xs.length (fun H => Sq j K H a xs ∧ Sq k K H b ys ∧ Sq l K H c zs) (Y3 xs ys zs) := by
  refine ⟨fun i _ hi q => ?_, fun _ q => ⟨xs, ys, zs, q.1, q.2.1, q.2.2, rfl, h1.symm, h2.symm⟩, fun i H v H' _ q y => ?_⟩
  · have g1 : i < ys.length := by omega
    have g2 : i < zs.length := by omega
    exact ⟨xs, ys, zs, xs[i], ys[i], zs[i], q.1, q.2.1, q.2.2, by simp [hi], by simp [g1], by simp [g2]⟩
  · obtain ⟨T, x, z, u, h1, h2, h3, h4, h5, h6⟩ := y
    exact ⟨T, x, z, u, h1, h2, h3, h4 xs q.1, h5 ys q.2.1, h6 zs q.2.2⟩
end Z3
set_option linter.all false
/-! list(zip(a, b)) of two lists; xs[::2], xs[1::2] of a list -/
namespace Lz
open PySem PySem.Spec PyProof.Rows L2
/-! ### every second item -/
def ev2 {α : Type} : List α → List α
  | [] => []
  | [a] => [a]
  | a :: _ :: r => a :: ev2 r
theorem ev2_get {α : Type} : ∀ (xs : List α) (k : Nat), (ev2 xs)[k]? = xs[2 * k]?
  | [], k => by simp [ev2]
  | [a], 0 => rfl
  | [a], k + 1 => by
    have e : 2 * (k + 1) = 2 * k + 1 + 1 := by omega
    simp [ev2, e]
  | a :: b :: r, 0 => rfl
  | a :: b :: r, k + 1 => by
    have e : 2 * (k + 1) = 2 * k + 1 + 1 := by omega
    show (ev2 r)[k]? = _
    rw [ev2_get r k, e]
    rfl
theorem ev2_len {α : Type} : ∀ xs : List α, (ev2 xs).length = (xs.length + 1) / 2
  | [] => by simp [ev2]
  | [_] => by simp [ev2]
  | _ :: _ :: r => by
    show (ev2 r).length + 1 = (r.length + 1 + 1 + 1) / 2
    rw [ev2_len r]
    omega
theorem ev2_map {α β : Type} (f : α → β) : ∀ xs : List α, ev2 (xs.map f) = (ev2 xs).map f
  | [] => rfl
  | [_] => rfl
  | a :: b :: r => by
    show f a :: ev2 (r.map f) = f a :: (ev2 r).map f
    rw [ev2_map f r]
theorem vals_ev2 : ∀ {xs : List V} {us : List Value}, Vals xs us → Vals (ev2 xs) (ev2 us)
  | _, _, .nil => .nil
  | _, _, .cons r .nil => .cons r .nil
  | _, _, .cons r (.cons _ rr) => .cons r (vals_ev2 rr)
theorem fm_get {α : Type} {f : Nat → Nat} {us ws : List α} {m : Nat} (hm : ws.length = m) (h : ∀ k, k < m → ws[k]? = us[f k]?) : ((List.range m).map f).filterMap (us[·]?) = ws := by
  induction m generalizing ws with
  | zero =>
    cases ws with
    | nil => rfl
    | cons _ _ => simp at hm
  | succ m ih =>
    have e : ws = ws.take m ++ [ws[m]'(by omega)] := by
      rw [List.take_append_getElem]
      exact (List.take_of_length_le (by omega)).symm
    have a := ih (ws := ws.take m) (by rw [List.length_take]; omega) fun k hk => by rw [List.getElem?_take, if_pos hk]; exact h k (by omega)
    have b := h m (by omega)
    rw [List.range_succ, List.map_append, List.filterMap_append, a]
    rw [List.getElem?_eq_getElem (by omega)] at b
    conv => rhs; rw [e]
    congr 1
    show [f m].filterMap (us[·]?) = _
    rw [List.filterMap_cons, ← b]
    rfl
theorem pick0 (us : List Value) : slicePick us.toArray none none (some 2) = (ev2 us).toArray := by
  unfold slicePick
  congr 1
  have e : sliceBounds none none (some 2) us.toArray.size = (0, (us.length : Int), 2) := by simp [sliceBounds]
  rw [e]
  show (sliceRange 0 (us.length : Int) 2).filterMap (us.toArray[·]?) = ev2 us
  have e2 : sliceRange 0 (us.length : Int) 2 = (List.range ((us.length + 1) / 2)).map fun k => 2 * k := by
    unfold sliceRange
    by_cases h : us.length = 0
    · rw [h]
      rfl
    · have z : ((us.length : Int) - 0 + 2 - 1) / 2 = (((us.length + 1) / 2 : Nat) : Int) := by omega
      have hp : (2 : Int) > 0 := by decide
      have hl : (0 : Int) < (us.length : Int) := by omega
      simp only [hp, hl, if_true, z, Int.toNat_natCast]
      apply List.map_congr_left
      intro k _
      omega
  rw [e2]
  have g : (fun i : Nat => us.toArray[i]?) = fun i : Nat => us[i]? := by
    funext i
    simp
  rw [g]
  exact fm_get (ev2_len us) fun k _ => ev2_get us k
theorem pick1 (us : List Value) : slicePick us.toArray (some 1) none (some 2) = (ev2 (us.drop 1)).toArray := by
  unfold slicePick
  congr 1
  by_cases h : us.length = 0
  · have e : us = [] := List.length_eq_zero_iff.mp h
    subst e
    rfl
  · have e : sliceBounds (some 1) none (some 2) us.toArray.size = (1, (us.length : Int), 2) := by
      simp [sliceBounds]
      omega
    rw [e]
    show (sliceRange 1 (us.length : Int) 2).filterMap (us.toArray[·]?) = _
    have e2 : sliceRange 1 (us.length : Int) 2 = (List.range (us.length / 2)).map fun k => 1 + 2 * k := by
      unfold sliceRange
      by_cases h1 : us.length = 1
      · rw [h1]
        rfl
      · have z : ((us.length : Int) - 1 + 2 - 1) / 2 = ((us.length / 2 : Nat) : Int) := by omega
        have hp : (2 : Int) > 0 := by decide
        have hl : (1 : Int) < (us.length : Int) := by omega
        simp only [hp, hl, if_true, z, Int.toNat_natCast]
        apply List.map_congr_left
        intro k _
        omega
    rw [e2]
    have g : (fun i : Nat => us.toArray[i]?) = fun i : Nat => us[i]? := by
      funext i
      simp
    rw [g]
    refine fm_get (by rw [ev2_len, List.length_drop]; omega) fun k _ => ?_
    rw [ev2_get, List.getElem?_drop]
section
variable {X : Cx}
def tEv (K : PySem.W.Frag) (n : Nat) (te : TE) : TE := fun σ H Q => te σ H fun x H1 => ∃ a xs, x = .ref a ∧ SqL K H1 a xs ∧ ∀ p, H1 p = none → Q (.ref p) (upd H1 p (.lst (ev2 (xs.drop n))))
theorem pe_ev0 {e : Expr} {te : TE} {k : Nat} {p1 p3 pos : Pos} (he : PE X e te) : PE X (.Subscript e (.Slice none none (some (.Constant (.int 2) k p1)) p3) pos) (tEv X.K 0 te) := by
  refine ⟨fun pn s σ H Q I h => Subscript_ (thn (he.run pn s σ H _ I h) fun v s1 ⟨x, H1, I1, r1, a, xs, ex, hx, q⟩ => ?_)⟩
  subst ex
  cases r1
  have two : PO X (some (.Constant (.int 2) k p1)) (tPart (tC (.int 2))) := po_some pe_int
  refine wpAny_Slice (thn (po_none.run pn s1 σ H1 (fun o G => o = none ∧ G = H1) I1 ⟨rfl, rfl⟩) fun v1 s2 ⟨o1, G1, I2, part1, e1, g1⟩ => ?_)
  subst e1 g1
  refine thn (po_none.run pn s2 σ G1 (fun o G => o = none ∧ G = G1) I2 ⟨rfl, rfl⟩) fun v2 s3 ⟨o2, G2, I3, part2, e2, g2⟩ => ?_
  subst e2 g2
  refine thn (two.run pn s3 σ G2 (fun o G => o = some 2 ∧ G = G2) I3 ⟨2, rfl, rfl, rfl⟩) fun v3 s4 ⟨o3, G3, I4, part3, e3, g3⟩ => ?_
  subst e3 g3
  have I5 : L2.Inv X pn σ G3 { s4 with heap := s4.heap.push { cls := .type "slice", data := .fields #[v1, v2, v3] } } := I4.kept (t' := s4.toks) fun b ob z => Heap.get?_push_of_some _ z
  obtain ⟨its, r, ht, hz⟩ := I5.list hx
  have hlen := r.length
  show wpAny (model X.prog X.w) X.A (subscriptTail e _ (.ref a) (.ref s4.heap.objs.size)) (EP X pn σ Q) X.xe _
  refine tail_any (ops := [.ref a, .ref s4.heap.objs.size]) ht.isList.typeIs slot_list_getitem.lookup ?_ (by with_unfolding_all rfl)
  refine wpAny_getItem_list_slice ht.isList (Heap.IsSliceOf.new ..) part1 part2 part3 (by simp) ?_ (by rw [List.size_toArray]; omega)
  rw [pick0]
  refine ⟨.ref _, _, I5.laid (t' := s4.toks) (o := .lst (ev2 xs)) (fun b ob z => Heap.get?_push_of_some _ z) (Nat.le_refl _) ?_, rfl, q _ (I5.hok.fresh (Nat.le_refl _))⟩
  exact ⟨by rw [ev2_len]; omega, ev2 its, 0, vals_ev2 r, Heap.get?_push_size _ rfl⟩
theorem pe_ev1 {e : Expr} {te : TE} {k j : Nat} {p1 p2 p3 pos : Pos} (he : PE X e te) : PE X (.Subscript e (.Slice (some (.Constant (.int 1) j p2)) none (some (.Constant (.int 2) k p1)) p3) pos) (tEv X.K 1 te) := by
  refine ⟨fun pn s σ H Q I h => Subscript_ (thn (he.run pn s σ H _ I h) fun v s1 ⟨x, H1, I1, r1, a, xs, ex, hx, q⟩ => ?_)⟩
  subst ex
  cases r1
  have one : PO X (some (.Constant (.int 1) j p2)) (tPart (tC (.int 1))) := po_some pe_int
  have two : PO X (some (.Constant (.int 2) k p1)) (tPart (tC (.int 2))) := po_some pe_int
  refine wpAny_Slice (thn (one.run pn s1 σ H1 (fun o G => o = some 1 ∧ G = H1) I1 ⟨1, rfl, rfl, rfl⟩) fun v1 s2 ⟨o1, G1, I2, part1, e1, g1⟩ => ?_)
  subst e1 g1
  refine thn (po_none.run pn s2 σ G1 (fun o G => o = none ∧ G = G1) I2 ⟨rfl, rfl⟩) fun v2 s3 ⟨o2, G2, I3, part2, e2, g2⟩ => ?_
  subst e2 g2
  refine thn (two.run pn s3 σ G2 (fun o G => o = some 2 ∧ G = G2) I3 ⟨2, rfl, rfl, rfl⟩) fun v3 s4 ⟨o3, G3, I4, part3, e3, g3⟩ => ?_
  subst e3 g3
  have I5 : L2.Inv X pn σ G3 { s4 with heap := s4.heap.push { cls := .type "slice", data := .fields #[v1, v2, v3] } } := I4.kept (t' := s4.toks) fun b ob z => Heap.get?_push_of_some _ z
  obtain ⟨its, r, ht, hz⟩ := I5.list hx
  have hlen := r.length
  show wpAny (model X.prog X.w) X.A (subscriptTail e _ (.ref a) (.ref s4.heap.objs.size)) (EP X pn σ Q) X.xe _
  refine tail_any (ops := [.ref a, .ref s4.heap.objs.size]) ht.isList.typeIs slot_list_getitem.lookup ?_ (by with_unfolding_all rfl)
  refine wpAny_getItem_list_slice ht.isList (Heap.IsSliceOf.new ..) part1 part2 part3 (by simp) ?_ (by rw [List.size_toArray]; omega)
  rw [pick1]
  refine ⟨.ref _, _, I5.laid (t' := s4.toks) (o := .lst (ev2 (xs.drop 1))) (fun b ob z => Heap.get?_push_of_some _ z) (Nat.le_refl _) ?_, rfl, q _ (I5.hok.fresh (Nat.le_refl _))⟩
  exact ⟨by rw [ev2_len, List.length_drop]; omega, ev2 (its.drop 1), 0, vals_ev2 (r.drop 1), Heap.get?_push_size _ rfl⟩
end
/-! ### list(zip(a, b)) -/
structure Zst (h : Heap) (z TI TO i1 i2 : Addr) (i : Nat) : Prop where
  zp : (i = 0 ∧ IsZip h z TI TO .none) ∨ ∃ T f o, IsZipHeld h z TI TO T f ∧ h.get? T = some o ∧ T ≠ z ∧ T ≠ TO ∧ T ≠ i1 ∧ T ≠ i2
  ti : IsPair h TI (.ref i1) (.ref i2)
  to : ∃ a b, IsPair h TO a b
theorem Zst.lz {h : Heap} {z TI TO i1 i2 : Addr} {i : Nat} (Z : Zst h z TI TO i1 i2 i) : z < h.objs.size := by
  rcases Z.zp with ⟨_, e⟩ | ⟨_, _, _, e, _⟩
  · exact Heap.lt_size e
  · exact Heap.lt_size e
theorem Zst.ty {s : Shared} {z TI TO i1 i2 : Addr} {i : Nat} (Z : Zst s.heap z TI TO i1 i2 i) : s.TypeIs (.ref z) "zip" := by
  rcases Z.zp with ⟨_, e⟩ | ⟨_, _, _, e, _⟩
  · exact ⟨_, e, rfl⟩
  · exact ⟨_, e, rfl⟩
theorem zip_no_len : typeLookup (.type "zip") "__len__" = pure none := by rw [typeLookup_type, builtinLookup_eq_fast]; kernel_rfl
theorem zip_no_hint : typeLookup (.type "zip") "__length_hint__" = pure none := by rw [typeLookup_type, builtinLookup_eq_fast]; kernel_rfl
section
variable {pr : Program} {w : World} {A : Around} {E : Value → Shared → Prop} {s : Shared} {z TI TO i1 i2 l1 l2 : Addr} {i : Nat} {xs ys : Array Value}
theorem next_ {x y : Value} {Q : Option Value → Shared → Prop} (D : ZipApart z TI TO i1 i2 l1 l2) (Z : Zst s.heap z TI TO i1 i2 i)
    (h1 : s.heap.IsListIter i1 l1 i) (h2 : s.heap.IsListIter i2 l2 i) (hl1 : s.heap.IsList l1 xs) (hl2 : s.heap.IsList l2 ys) (hx : xs[i]? = some x) (hy : ys[i]? = some y)
    (hQ : ∀ h', Zst h' z TI TO i1 i2 (i + 1) → h'.IsListIter i1 l1 (i + 1) → h'.IsListIter i2 l2 (i + 1) → IsPair h' s.heap.objs.size x y → (∀ c o, c ≠ z → c ≠ TO → c ≠ i1 → c ≠ i2 → s.heap.get? c = some o → h'.get? c = some o) → Q (some (.ref s.heap.objs.size)) { s with heap := h' }) :
    wpAny (model pr w) A (pyNext (.ref z)) Q E s := by
  have lz := Z.lz
  obtain ⟨zp, hTI, a, b, hTO⟩ := Z
  have lT : TO < s.heap.objs.size := Heap.lt_size hTO
  have g1 : i1 < s.heap.objs.size := by obtain ⟨_, e, _⟩ := h1; exact Heap.lt_size e
  have g2 : i2 < s.heap.objs.size := by obtain ⟨_, e, _⟩ := h2; exact Heap.lt_size e
  rcases zp with ⟨_, hz⟩ | ⟨T, f, o, hz, hT, t1, t2, t3, t4⟩
  · refine wpAny_pyNext_zip_item D hz hTI hTO h1 h2 hl1 hl2 hx hy fun h' b1 b2 b3 b4 b5 _ b7 => hQ h' ⟨.inr ⟨_, false, _, b1, b5, Nat.ne_of_gt lz, Nat.ne_of_gt lT, Nat.ne_of_gt g1, Nat.ne_of_gt g2⟩, b7 _ _ D.TIz D.TITO D.TIi1 D.TIi2 hTI, _, _, b2⟩ b3 b4 b5 b7
  · exact wpAny_pyNext_zip_item_held D hz hT hTI h1 h2 hl1 hl2 hx hy fun h' b1 b3 b4 b5 _ b7 => hQ h' ⟨.inr ⟨T, true, o, b1, b7 _ _ t1 t3 t4 hT, t1, t2, t3, t4⟩, b7 _ _ D.TIz D.TIi1 D.TIi2 hTI, _, _, b7 _ _ D.TOz D.TOi1 D.TOi2 hTO⟩ b3 b4 b5 fun c o' c1 _ c3 c4 e => b7 c o' c1 c3 c4 e
theorem last_ {Q : Option Value → Shared → Prop} (hh : A.handled = none) (D : ZipApart z TI TO i1 i2 l1 l2) (Z : Zst s.heap z TI TO i1 i2 i)
    (h1 : s.heap.IsListIter i1 l1 i) (h2 : s.heap.IsListIter i2 l2 i) (hl1 : s.heap.IsList l1 xs) (hl2 : s.heap.IsList l2 ys) (hx : xs[i]? = none)
    (hQ : ∀ h', (∀ c o, c ≠ z → c ≠ TO → c ≠ i1 → c ≠ i2 → s.heap.get? c = some o → h'.get? c = some o) → Q none { s with heap := h' }) :
    wpAny (model pr w) A (pyNext (.ref z)) Q E s := by
  obtain ⟨zp, hTI, a, b, hTO⟩ := Z
  rcases zp with ⟨_, hz⟩ | ⟨T, f, o, hz, hT, t1, t2, t3, t4⟩
  · exact wpAny_pyNext_zip_end hh D hz hTI hTO h1 h2 hl1 hl2 (.inl hx) hQ
  · exact wpAny_pyNext_zip_end_held hh D hz hT hTI h1 h2 hl1 hl2 (.inl hx) fun h' b7 => hQ h' fun c o' c1 _ c3 c4 e => b7 c o' c1 c3 c4 e
end
/-- what stands behind list(zip(a, b)): new pairs, a new list of them -/
structure Zipped (H0 H : Hp) (S : Addr) (ts : List Addr) (xs ys : List V) : Prop where
  same : Same H0 H
  new : H0 S = none
  lst : H S = some (.lst (ts.map V.ref))
  len : ts.length = xs.length
  get : ∀ (j : Nat) (t : Addr) (x y : V), ts[j]? = some t → xs[j]? = some x → ys[j]? = some y → H t = some (.tup [x, y])
section
variable {X : Cx} {A : Around} {pn : List (Addr × Obj)} {σ : L2.St} {R : Result → Shared → Prop} {z TI TO i1 i2 a b S : Addr} {xs ys : List V} {H0 : Hp}
theorem loop (hh : A.in1.handled = none) (D : ZipApart z TI TO i1 i2 a b) (res : Value) (hle : xs.length = ys.length) (hn : xs.length < sizeLine) (qa : SqL X.K H0 a xs) (qb : SqL X.K H0 b ys) (h0S : H0 S = none) (nS : S ≠ z ∧ S ≠ TI ∧ S ≠ TO ∧ S ≠ i1 ∧ S ≠ i2) :
    ∀ (k i : Nat) (s : Shared) (H : Hp) (ts : List Addr), xs.length - i = k → i ≤ xs.length → L2.Inv X pn σ H s → (∀ c ∈ [z, TI, TO, i1, i2], FpOk X pn H c) → Zst s.heap z TI TO i1 i2 i → s.heap.IsListIter i1 a i → s.heap.IsListIter i2 b i →
      Same H0 H → H S = some (.lst (ts.map V.ref)) → ts.length = i → (∀ (j : Nat) (t : Addr) (x y : V), ts[j]? = some t → xs[j]? = some x → ys[j]? = some y → H t = some (.tup [x, y])) →
      (∀ (s' : Shared) (H' : Hp) (ts' : List Addr), L2.Inv X pn σ H' s' → Zipped H0 H' S ts' xs ys → R (.ok (.ret res)) s') →
      codeAny (model X.prog X.w) A (.builtin "list.extend.loop" ⟨[.ref S, .ref z, res], []⟩) R s := by
  intro k
  induction k with
  | zero =>
    intro i s H ts hk hi I hf Z h1 h2 sm hS ht hg fin
    have e : i = xs.length := by omega
    obtain ⟨us, rv, p1, _⟩ := I.list (sm.seq qa)
    obtain ⟨vs, rv2, p2, _⟩ := I.list (sm.seq qb)
    refine codeAny_builtin F.entry_extend_loop ?_
    rw [Around.under_plainId F.plain_extend_loop _]
    show wpAny _ A.in1 (pyNext (.ref z) >>= _) _ _ s
    refine wpAny_bind (last_ hh D Z h1 h2 p1.isList p2.isList (by
      have := rv.length
      simp
      omega) fun h' kp => ?_)
    refine wpAny_pure (fin _ H ts (I.turnedL (t' := s.toks) (ch := [z, TI, TO, i1, i2]) (fun c o n q => kp c o (fun e => n (by rw [e]; simp)) (fun e => n (by rw [e]; simp)) (fun e => n (by rw [e]; simp)) (fun e => n (by rw [e]; simp)) q) hf) ⟨sm, h0S, hS, by omega, hg⟩)
  | succ k ih =>
    intro i s H ts hk hi I hf Z h1 h2 sm hS ht hg fin
    have hlt : i < xs.length := by omega
    obtain ⟨us, rv, p1, _⟩ := I.list (sm.seq qa)
    obtain ⟨vs, rv2, p2, _⟩ := I.list (sm.seq qb)
    have hx : xs[i]? = some xs[i] := List.getElem?_eq_getElem hlt
    have hy : ys[i]? = some (ys[i]'(by omega)) := List.getElem?_eq_getElem (by omega)
    obtain ⟨u, eu, ru⟩ := rv.get hx
    obtain ⟨v, ev, rv'⟩ := rv2.get hy
    refine codeAny_builtin F.entry_extend_loop ?_
    rw [Around.under_plainId F.plain_extend_loop _]
    show wpAny _ A.in1 (pyNext (.ref z) >>= _) _ _ s
    refine wpAny_bind (next_ D Z h1 h2 p1.isList p2.isList (x := u) (y := v) (by simpa using eu) (by simpa using ev) fun h' Z' h1' h2' hT kp => ?_)
    have new : ObjOk X.prog X.w (upd H s.heap.objs.size (.tup [xs[i], ys[i]'(by omega)])) h' s.heap.objs.size (.tup [xs[i], ys[i]'(by omega)]) := ⟨by show 2 ≤ sizeLine; decide, [u, v], .cons ru (.cons rv' .nil), ⟨_, hT, rfl, _, rfl⟩⟩
    have I1 := I.turnedNew (t' := s.toks) (ch := [z, TI, TO, i1, i2]) (fun c o n q => kp c o (fun e => n (by rw [e]; simp)) (fun e => n (by rw [e]; simp)) (fun e => n (by rw [e]; simp)) (fun e => n (by rw [e]; simp)) q) hf (Nat.le_refl _) new
    have hT0 : H s.heap.objs.size = none := I.hok.fresh (Nat.le_refl _)
    have neS : S ≠ s.heap.objs.size := ne_of_none hS hT0
    have hS1 : upd H s.heap.objs.size (.tup [xs[i], ys[i]'(by omega)]) S = some (.lst (ts.map V.ref)) := by
      rw [upd_ne neS]
      exact hS
    obtain ⟨_, its, n, ri, eS⟩ := I1.hok S _ hS1
    have il := ri.length
    rw [List.length_map] at il
    show wpAny _ A.in1 (updateSeq S (·.push (.ref s.heap.objs.size)) >>= _) _ _ _
    refine wpAny_bind (wpAny_updateSeq eS rfl (wpAny_pure ?_) (by rw [List.size_toArray]; omega) (by show (its.toArray.push _).size ≤ _; rw [Array.size_push, List.size_toArray]; omega))
    have oth : ∀ c o, c ≠ S → h'.get? c = some o → (h'.update S (Obj.mapSeq (·.push (.ref s.heap.objs.size)))).get? c = some o := fun c o n e => (Heap.get?_update_other _ _ (Ne.symm n)).trans e
    have eS2 := Heap.get?_update_self (Obj.mapSeq (·.push (Value.ref s.heap.objs.size))) eS rfl
    have I2 := I1.write (x := S) (e := S) (o := .lst ((ts ++ [s.heap.objs.size]).map V.ref)) (t' := s.toks) (by rw [hS1]; trivial) (.inl rfl) (fun c o n e => oth c o n e) ⟨_, eS2⟩ ⟨by rw [List.length_map, List.length_append, List.length_singleton]; omega, its ++ [.ref s.heap.objs.size], n + 1, by rw [List.map_append]; exact ri.append (.cons rfl .nil), by rw [eS2]; simp [Obj.mapSeq]⟩
    refine ⟨plainId_quiet F.plain_extend_loop _, ih (i + 1) _ _ (ts ++ [s.heap.objs.size]) (by omega) (by omega) I2 (fun c hc => ?_) ?_ ?_ ?_ ?_ upd_same (by rw [List.length_append, ht]; rfl) ?_ fin⟩
    · have f := hf c hc
      have lt : c ≠ s.heap.objs.size := by
        have q : c = z ∨ c = TI ∨ c = TO ∨ c = i1 ∨ c = i2 := by simpa using hc
        rcases q with q | q | q | q | q
        · rw [q]; exact Nat.ne_of_lt Z.lz
        · rw [q]; exact Nat.ne_of_lt (Heap.lt_size Z.ti)
        · rw [q]; obtain ⟨_, _, e⟩ := Z.to; exact Nat.ne_of_lt (Heap.lt_size e)
        · rw [q]; obtain ⟨_, e, _⟩ := h1; exact Nat.ne_of_lt (Heap.lt_size e)
        · rw [q]; obtain ⟨_, e, _⟩ := h2; exact Nat.ne_of_lt (Heap.lt_size e)
      have nc : c ≠ S := by
        have q : c = z ∨ c = TI ∨ c = TO ∨ c = i1 ∨ c = i2 := by simpa using hc
        rcases q with q | q | q | q | q
        · rw [q]; exact nS.1.symm
        · rw [q]; exact nS.2.1.symm
        · rw [q]; exact nS.2.2.1.symm
        · rw [q]; exact nS.2.2.2.1.symm
        · rw [q]; exact nS.2.2.2.2.symm
      refine ⟨?_, f.2⟩
      rw [upd_ne nc, upd_ne lt]
      exact f.1
    · obtain ⟨zp, t1, a1, b1, t2⟩ := Z'
      refine ⟨?_, oth _ _ nS.2.1.symm t1, a1, b1, oth _ _ nS.2.2.1.symm t2⟩
      rcases zp with ⟨q, _⟩ | ⟨T, f, o, q1, q2, q3⟩
      · omega
      · by_cases eT : T = S
        · exact .inr ⟨T, f, _, oth _ _ nS.1.symm q1, by rw [eT]; exact eS2, q3⟩
        · exact .inr ⟨T, f, o, oth _ _ nS.1.symm q1, oth _ _ eT q2, q3⟩
    · exact h1'.at fun o e => oth _ o nS.2.2.2.1.symm e
    · exact h2'.at fun o e => oth _ o nS.2.2.2.2.symm e
    · intro c o e
      rw [upd_ne (ne_of_none e h0S), upd_ne (ne_of_none (sm _ _ e) hT0)]
      exact sm _ _ e
    · intro j t x y hj hx' hy'
      by_cases hji : j < ts.length
      · rw [List.getElem?_append_left hji] at hj
        have q := hg j t x y hj hx' hy'
        rw [upd_ne (ne_of q hS (by intro z; cases z)), upd_ne (ne_of_none q hT0)]
        exact q
      · have ej : j = i := by
          have := (List.getElem?_eq_some_iff.mp hj).1
          rw [List.length_append, List.length_singleton] at this
          omega
        subst ej
        rw [List.getElem?_append_right (by omega), ht, Nat.sub_self] at hj
        cases hj
        rw [hx] at hx'
        rw [hy] at hy'
        cases hx'
        cases hy'
        rw [upd_ne neS.symm]
        exact upd_same
def tLZ (K : PySem.W.Frag) (ta : TA) : TE := fun σ H Q => ta σ H fun vs H1 => ∃ a b xs ys, vs = [.ref a, .ref b] ∧ SqL K H1 a xs ∧ SqL K H1 b ys ∧ xs.length = ys.length ∧ xs.length < sizeLine ∧ ∀ S ts H', Zipped H1 H' S ts xs ys → Q (.ref S) H'
theorem pe_LZ {e e2 : Expr} {ta : TA} {p p2 pos pos2 : Pos} (hc : X.calm = true) (hg : Gl X "list") (hm : X.mg "list" = none) (hg2 : Gl X "zip") (hm2 : X.mg "zip" = none) (ha : PA X [e, e2] ta)
    (hs : starEach [e, e2] X.env = (false, eval e X.env) :: starEach [e2] X.env := by rfl) (hpl : (backTo pos2 (starEach [e2] X.env)).any (·.1) = false := by rfl)
    (hs2 : starEach [.Call (.Name "zip" p2) [e, e2] [] pos2] X.env = (false, eval (.Call (.Name "zip" p2) [e, e2] [] pos2) X.env) :: starEach [] X.env := by rfl) :
    PE X (.Call (.Name "list" p) [.Call (.Name "zip" p2) [e, e2] [] pos2] [] pos) (tLZ X.K ta) := by
  refine ⟨fun pn s σ H Q I h => ?_⟩
  refine Call_ (ld_blt I hg hm boot_list (PyProof.Rows.callWith_type1 (args_cons (Call_ (ld_blt I hg2 hm2 boot_zip (PyProof.Rows.callWith_type1 (thn (ha.run pos2 pn s σ H _ I h) fun us s1 ⟨vs, H1, I1, r1, q1⟩ => ?_) hs hpl))) hs2) hs2 rfl))
  obtain ⟨a, b, xs, ys, ex, qx, qy, hle, hn, q⟩ := q1
  subst ex
  cases r1 with
  | cons r rr =>
   cases rr with
   | cons r' rr =>
    cases rr
    cases r
    cases r'
    obtain ⟨us, rv, p1, _⟩ := I1.list qx
    obtain ⟨vs, rv2, p2, _⟩ := I1.list qy
    have la := p1.lt
    have lb := p2.lt
    refine call_zip_2 p1.isList p2.isList fun h' hz hTI hTO h1 h2 hsz kp => args_nil ?_
    have I2 : L2.Inv X pn σ H1 { s1 with heap := h' } := I1.kept (t' := s1.toks) kp
    have D := PySem.W.ktu_apart s1.heap.objs.size a b la lb
    have hh : X.A.in1.in1.handled = none := I1.ok.hd hc
    have fp : ∀ c ∈ [s1.heap.objs.size + 4, s1.heap.objs.size + 2, s1.heap.objs.size + 3, s1.heap.objs.size, s1.heap.objs.size + 1], FpOk X pn H1 c := fun c hcm => by
      have le : s1.heap.objs.size ≤ c := by
        have e' : c = s1.heap.objs.size + 4 ∨ c = s1.heap.objs.size + 2 ∨ c = s1.heap.objs.size + 3 ∨ c = s1.heap.objs.size ∨ c = s1.heap.objs.size + 1 := by simpa using hcm
        rcases e' with q | q | q | q | q <;> (rw [q]; first | exact Nat.le_refl _ | exact Nat.le_add_right _ _)
      exact I1.fpOk le (I1.hok.fresh le)
    generalize s1.heap.objs.size + 4 = z at *
    generalize s1.heap.objs.size + 2 = TI at *
    generalize s1.heap.objs.size + 3 = TO at *
    generalize s1.heap.objs.size + 1 = i2 at *
    generalize s1.heap.objs.size = i1 at *
    have Z0 : Zst h' z TI TO i1 i2 0 := ⟨.inl ⟨rfl, hz⟩, hTI, _, _, hTO⟩
    have l1 : i1 < h'.objs.size := by obtain ⟨_, e, _⟩ := h1; exact Heap.lt_size e
    have l2 : i2 < h'.objs.size := by obtain ⟨_, e, _⟩ := h2; exact Heap.lt_size e
    refine callType_codes (Q₁ := fun obj t => obj = .ref h'.objs.size ∧ t = { s1 with heap := h'.push { cls := .type "list", data := .seq #[] } }) F.called_list (F.typeCall_list_1 _) F.entry_list_init (code_list_new _ ⟨rfl, rfl⟩) fun obj t ht => ?_
    obtain ⟨rfl, rfl⟩ := ht
    have eS : (h'.push { cls := .type "list", data := .seq #[] }).get? h'.objs.size = some { cls := .type "list", data := .seq #[] } := Heap.get?_push_size _ rfl
    have up : ∀ c o, h'.get? c = some o → (h'.push { cls := .type "list", data := .seq #[] }).get? c = some o := fun c o e => Heap.get?_push_of_some _ e
    refine ⟨⟨_, eS, rfl⟩, F.args_list_init_2 _ _, ?_⟩
    generalize h'.push { cls := .type "list", data := .seq #[] } = g at eS up ⊢
    have nS : h'.objs.size ≠ z ∧ h'.objs.size ≠ TI ∧ h'.objs.size ≠ TO ∧ h'.objs.size ≠ i1 ∧ h'.objs.size ≠ i2 := ⟨Nat.ne_of_gt Z0.lz, Nat.ne_of_gt (Heap.lt_size hTI), Nat.ne_of_gt (Heap.lt_size hTO), Nat.ne_of_gt l1, Nat.ne_of_gt l2⟩
    have h0S : H1 h'.objs.size = none := I2.hok.fresh (Nat.le_refl _)
    have lS : h'.objs.size ≤ h'.objs.size := Nat.le_refl _
    generalize eN : h'.objs.size = S at eS nS h0S lS ⊢
    show wpAny _ _ (do let old ← Builtin.List.listItems (.ref S); Builtin.List.listUpdate (.ref S) (fun _ => #[]); letGo old.toList.reverse; Builtin.List.listExtendWith (.ref S) (.ref z) .none) _ _ _
    unfold Builtin.List.listItems
    refine wpAny_bind (wpAny_bind (wpAny_seqItems eS rfl (wpAny_pure ?_)))
    show wpAny _ _ (updateSeq S (fun _ => #[]) >>= fun _ => letGo (#[] : Array Value).toList.reverse >>= fun _ => Builtin.List.listExtendWith (.ref S) (.ref z) .none) _ _ _
    refine wpAny_bind (wpAny_updateSeq eS rfl ?_)
    have eS2 := Heap.get?_update_self (Obj.mapSeq (fun _ => (#[] : Array Value))) eS rfl
    have o2 : ∀ c o, c ≠ S → g.get? c = some o → (g.update S (Obj.mapSeq (fun _ => (#[] : Array Value)))).get? c = some o := fun c o n e => (Heap.get?_update_other _ _ (Ne.symm n)).trans e
    refine wpAny_bind (wpAny_letGo ?_)
    generalize g.update S (Obj.mapSeq (fun _ => (#[] : Array Value))) = g2 at eS2 o2 ⊢
    have Z2 : Zst g2 z TI TO i1 i2 0 := ⟨.inl ⟨rfl, o2 _ _ nS.1.symm (up _ _ hz)⟩, o2 _ _ nS.2.1.symm (up _ _ hTI), _, _, o2 _ _ nS.2.2.1.symm (up _ _ hTO)⟩
    have ty2 : Shared.TypeIs { s1 with heap := g2 } (.ref z) "zip" := Zst.ty (s := { s1 with heap := g2 }) Z2
    unfold Builtin.List.listExtendWith
    refine wpAny_bind (wpAny_typeOf ty2 ?_)
    have c1 : Builtin.List.listSameRef (.ref S) (.ref z) = false := by simp [Builtin.List.listSameRef, nS.1]
    have c2 : (Value.type "zip" == Value.type "list") = false := by decide
    have c3 : (Value.type "zip" == Value.type "tuple") = false := by decide
    simp only [c1, c2, c3, Bool.or_false, Bool.false_eq_true, if_false]
    refine wpAny_bind (wpAny_pyIter_zip (o2 _ _ nS.1.symm (up _ _ hz)) ?_)
    refine wpAny_bind (wpAny_holding ?_)
    unfold Builtin.List.listLengthHint
    refine wpAny_bind (wpAny_specialOf ty2 zip_no_len ?_)
    show wpAny _ _ (specialOf (Value.ref z) (Str.ofString "__length_hint__") >>= _) _ _ _
    refine wpAny_bind (wpAny_specialOf ty2 zip_no_hint (wpAny_pure ?_))
    show wpAny _ _ (rule "list.extend.makes-room" >>= fun _ => Builtin.List.listTouch (.ref S) >>= fun _ => again (.builtin "list.extend.loop" ⟨[.ref S, .ref z, .none], []⟩)) _ _ _
    refine wpAny_bind (wpAny_rule (wpAny_bind ?_))
    show wpAny _ _ (updateSeq S (·.push .none) >>= fun _ => updateSeq S (·.pop)) _ _ _
    refine wpAny_bind (wpAny_updateSeq eS2 rfl ?_)
    have eS3 := Heap.get?_update_self (Obj.mapSeq (·.push Value.none)) eS2 rfl
    refine wpAny_updateSeq (hz := by seq_fits) eS3 rfl ?_
    have eS4 := Heap.get?_update_self (Obj.mapSeq (·.pop)) eS3 rfl
    have o4 : ∀ c o, c ≠ S → g2.get? c = some o → ((g2.update S (Obj.mapSeq (·.push Value.none))).update S (Obj.mapSeq (·.pop))).get? c = some o := fun c o n e => (Heap.get?_update_other _ _ (Ne.symm n)).trans ((Heap.get?_update_other _ _ (Ne.symm n)).trans e)
    refine wpAny_pure ⟨plainId_quiet F.plain_extend_loop _, ?_⟩
    generalize (g2.update S (Obj.mapSeq (·.push Value.none))).update S (Obj.mapSeq (·.pop)) = g4 at eS4 o4 ⊢
    have kp4 : ∀ c o, h'.get? c = some o → g4.get? c = some o := fun c o e => by
      have n : c ≠ S := by
        rw [← eN]
        exact Nat.ne_of_lt (Heap.lt_size e)
      exact o4 c o n (o2 c o n (up c o e))
    have I4 := I2.laid (t' := s1.toks) (o := .lst (([] : List Addr).map V.ref)) kp4 (Nat.le_of_eq eN) ⟨by simp, [], _, .nil, eS4⟩
    refine loop hh D .none hle hn qx qy h0S nS xs.length 0 _ _ [] (by omega) (Nat.zero_le _) I4 (fun c hcm => ?_) ⟨.inl ⟨rfl, kp4 _ _ hz⟩, kp4 _ _ hTI, _, _, kp4 _ _ hTO⟩ (h1.at fun o e => kp4 _ o e) (h2.at fun o e => kp4 _ o e) (fun c o e => by rw [upd_ne (ne_of_none e h0S)]; exact e) upd_same rfl (fun j t x y hj => by simp at hj) ?_
    · have f := fp c hcm
      refine ⟨?_, f.2⟩
      have n : c ≠ S := by
        have e' : c = z ∨ c = TI ∨ c = TO ∨ c = i1 ∨ c = i2 := by simpa using hcm
        rcases e' with q | q | q | q | q
        · rw [q]; exact nS.1.symm
        · rw [q]; exact nS.2.1.symm
        · rw [q]; exact nS.2.2.1.symm
        · rw [q]; exact nS.2.2.2.1.symm
        · rw [q]; exact nS.2.2.2.2.symm
      rw [upd_ne n]
      exact f.1
    · intro s' H' ts' I' Z'
      exact ⟨rfl, ⟨.ref S, H', I', rfl, q S ts' H' Z'⟩⟩
end
end Lz
set_option linter.all false
/-! set(xs) of a list of ints, as sorted() asks for it -/
namespace Si
open PySem PySem.Spec PyProof.Rows L2
abbrev nw (w : World) : Obj := { cls := .type "set", dict := none, data := .set #[] 0 (.fresh 0 0 (!w.params.followText "set-order")) }
section
variable {P : Program} {w : World} {A : Around} {E : Value → Shared → Prop} {s : Shared}
set_option maxHeartbeats 3200000 in
theorem set_list {l : Addr} {items : Array Value} (ns : List Int) {Q : Value → Shared → Prop} (hh : A.handled = none) (hl : s.heap.IsList l items) (hit : IntsAre items.toList ns) (hb : ns.length + 1 < scanBound)
    (h : ∀ (h' : Heap) (tk c : Nat), SetR w h' s.heap.objs.size (fun j => decide (j ∈ ns)) c → c ≤ ns.length → (∀ b o, s.heap.get? b = some o → h'.get? b = some o) → Q (.ref s.heap.objs.size) { s with heap := h', toks := tk }) :
    wpAny (model P w) A (call (.type "set") [.ref l]) Q E s := by
  have isz : items.size = ns.length := by
    have q := IntsAre.length hit
    rwa [Array.length_toList] at q
  obtain ⟨c, tl, hmro⟩ := F.called_set.mro
  have hmade := F.called_set.made
  have hsub := F.called_set.sub
  refine wpAny_call (codeAny_of_tree ?_)
  show wpAny _ _ (callAny (.type "set") _) _ _ _
  refine wpAny_pure ⟨Code.quiet_builtin _ (by decide +kernel), codeAny_builtin F.entry_type_call ?_⟩
  rw [Around.under_plain (weight_type_call_type "set" [.ref l] []) rfl]
  have h1 := F.called_set.notType
  have h2 := F.called_set.canCreate
  have hct := F.typeCall_set_1 (.ref l)
  repeat (any_goals (first | assumption | wp_step))
  refine codeAny_mono (code_set_led1 (.ref l) (E := E) (Q₁ := fun obj s₁ => obj = .ref s.heap.objs.size ∧ s₁ = { s with heap := s.heap.push (nw w) }) ⟨rfl, rfl⟩) fun r s₁ hr => ?_
  cases r with
  | error e => exact hr
  | ok fl =>
    cases fl with
    | ret obj =>
      obtain ⟨rfl, rfl⟩ := hr
      have hS : (s.heap.push (nw w)).get? s.heap.objs.size = some (nw w) := Heap.get?_push_size _ rfl
      have hT : Shared.TypeIs { s with heap := s.heap.push (nw w) } (.ref s.heap.objs.size) "set" := ⟨_, hS, rfl⟩
      have hli := F.called_set.init.lookup
      have hbi := F.called_set.init.bind (.ref s.heap.objs.size)
      repeat (any_goals (first | assumption | wp_step))
      refine codeAny_mono (codeAny_call_builtin (R := wants (fun r s₂ => r = .none ∧ ∃ h' tk c, s₂ = { s with heap := h', toks := tk } ∧ SetR w h' s.heap.objs.size (fun j => decide (j ∈ ns)) c ∧ c ≤ ns.length ∧
          (∀ b o, s.heap.get? b = some o → h'.get? b = some o)) E) F.called_set.init.plain F.entry_set_init (check_set_init_1 hT ?_)) fun r₂ s₂ hr₂ => ?_
      · obtain ⟨ol, hol, hcl, nl, hdl⟩ := hl
        obtain ⟨ocls, odict, odata, oslots⟩ := ol
        simp only at hcl hdl
        subst hcl; subst hdl
        have hol' : (s.heap.push (nw w)).get? l = some { cls := .type "list", dict := odict, data := .seq items nl, slots := oslots } := Heap.get?_push_of_some _ hol
        have hsls := F.sub_list_set
        have hslf := F.sub_list_frozenset
        have hne : (Value.type "list" == Value.type "dict") = false := by decide
        have hl1 : (s.heap.push (nw w)).IsList l items := ⟨_, hol', rfl, nl, rfl⟩
        unfold Builtin.«set.__init__» noKeywords Builtin.Frozenset.updateFrom
        generalize hPI : pyIter = PI
        wp_walk
        subst hPI
        refine wpAny_pyIter_list hl1 ?_
        refine wpAny_bind (wpAny_runValue ?_)
        have lS : l < s.heap.objs.size := Heap.lt_size hol
        have hh3 : A.in1.in1.in1.handled = none := by simp [hh]
        have neI : l ≠ (s.heap.push (nw w)).objs.size := by
          rw [Heap.size_push]
          exact Nat.ne_of_lt (Nat.lt_succ_of_lt lS)
        have notF : s.heap.objs.size ∉ [(s.heap.push (nw w)).objs.size, l] := by
          rw [Heap.size_push]
          simp only [List.mem_cons, List.mem_singleton, List.not_mem_nil, or_false, not_or]
          exact ⟨Nat.ne_of_lt (Nat.lt_succ_self _), Nat.ne_of_gt lS⟩
        have val : ∀ (i : Nat) (v : Value), items[i]? = some v → ∃ k t, ns[i]? = some k ∧ v = .int k t := fun i v hv => by
          have hi : i < ns.length := by rw [← isz]; exact (Array.getElem?_eq_some_iff.mp hv).1
          obtain ⟨t, e⟩ := IntsAre.int_at hit i v (by rw [Array.getElem?_toList]; exact hv)
          exact ⟨ns[i], t, List.getElem?_eq_getElem hi, by rw [e, List.getD_eq_getElem?_getD, List.getElem?_eq_getElem hi] <;> rfl⟩
        refine set_update_ints ((Walks.list hh3 _ l neI items).toS) s.heap.objs.size notF ns isz hb val (items.size - 0) 0 _ (by omega) (Nat.zero_le _) ⟨⟨_, Heap.get?_push_size _ rfl, rfl, rfl⟩, (hl1.push _)⟩ ⟨0, Nat.le_refl 0, setR_new_at (Heap.get?_push_of_some _ hS)⟩ ?_
        intro s' c' hm hc' hS'
        obtain ⟨h', g2, d', tk', os'⟩ := s'
        have eg : g2 = s.gens := hm.gens
        have ed : d' = s.drawn := hm.drawn
        have eo : os' = s.os := hm.os
        subst eg; subst ed; subst eo
        show wpAny _ _ _ _ _ _
        refine wpAny_pure ?_
        show wpAny _ _ (ret Value.none) _ _ _
        rw [isz] at hc'
        refine wpAny_pure ⟨rfl, h', tk', c', rfl, hS', hc', fun b o e => ?_⟩
        have b0 : b < s.heap.objs.size := Heap.lt_size e
        have b2 : b ≠ (s.heap.push (nw w)).objs.size := by
          rw [Heap.size_push]
          exact Nat.ne_of_lt (Nat.lt_succ_of_lt b0)
        exact hm.heap b o (by simp only [List.mem_cons, List.mem_singleton, List.not_mem_nil, or_false, not_or]; exact ⟨Nat.ne_of_lt b0, b2⟩) (Heap.get?_push_of_some _ (Heap.get?_push_of_some _ e))
      · cases r₂ with
        | error e => exact hr₂
        | ok fl₂ =>
          cases fl₂ with
          | ret r =>
            obtain ⟨rfl, h', tk, c', rfl, hS', hc', hk'⟩ := hr₂
            repeat (any_goals (first | assumption | wp_step))
            exact h _ _ _ hS' hc' hk'
          | _ => exact hr₂.elim
    | _ => exact hr.elim
end
/-- set(xs), a list of ints -/
def rSetL (K : PySem.W.Frag) (w : World) : List V → Hp → VK → Prop := fun xs H Q => ∃ (l : Addr) (ns : List Int), xs = [V.ref l] ∧ SqL K H l (ns.map V.int) ∧ ns.length ≤ 1000 ∧
  ∀ a c, H a = none → c ≤ ns.length → Q (.ref a) (upd H a (SetO w a (fun j => decide (j ∈ ns)) c))
theorem cr_setL {X : Cx} (hc : X.calm = true) : CallR X (.type "set") (rSetL X.K X.w) := by
  intro pins s σ H xs us Q I r h
  obtain ⟨l, ns, rfl, hl, hf, q⟩ := h
  rw [Vals.ref1 r]
  obtain ⟨its, rv, pl, hz⟩ := I.list hl
  refine set_list (P := X.prog) (w := X.w) ns (I.ok.hd hc) pl.isList (by simpa using rv.ints) (by unfold scanBound; omega) fun h' tk c R g k => ?_
  exact ⟨.ref s.heap.objs.size, upd H s.heap.objs.size (SetO X.w s.heap.objs.size (fun j => decide (j ∈ ns)) c), I.laid (t' := tk) k (Nat.le_refl _) (setO_new R), rfl, q _ _ (I.hok.fresh (Nat.le_refl _)) g⟩
end Si
set_option linter.all false
/-! zip(*xs): any number of lists, or of tuples, of one length -/
namespace Zn
open PySem PySem.Spec PyProof.Rows L2 Zm
section
variable {pr : Program} {w : World} {A : Around} {E : Value → Shared → Prop} {s : Shared}
theorem nx_item (k : Kd) {it a : Addr} {i : Nat} {items : Array Value} {x : Value} {Q : Value → Shared → Prop} (hit : Itr k s.heap it a i) (hl : Sqh k s.heap a items) (hx : items[i]? = some x)
    (hQ : ∀ h', Itr k h' it a (i + 1) → Heap.SameBut it s.heap h' → Q x { s with heap := h' }) : wpAny (model pr w) A (Builtin.SmallTypes.nextOf (.ref it)) Q E s := match k, hit, hl, hQ with
  | .l, hit, hl, hQ => wpAny_nextOf_list_item hit hl hx hQ
  | .t, hit, hl, hQ => wpAny_nextOf_tuple_item hit hl hx hQ
theorem nx_end (k : Kd) {it a : Addr} {i : Nat} {items : Array Value} {Q : Value → Shared → Prop} (hh : A.handled = none) (hit : Itr k s.heap it a i) (hl : Sqh k s.heap a items) (hx : items[i]? = none)
    (hE : ∀ h' e, Heap.ExtBut it s.heap h' → (∃ o, h'.get? e = some o ∧ o.cls = .type "StopIteration") → E (.ref e) { s with heap := h' }) : wpAny (model pr w) A (Builtin.SmallTypes.nextOf (.ref it)) Q E s := match k, hit, hl with
  | .l, hit, hl => wpAny_nextOf_list_end hh hit hl hx hE
  | .t, hit, hl => wpAny_nextOf_tuple_end hh hit hl hx hE
theorem steps {α σ : Type} {B : α → σ → Sem (ForInStep σ)} (J : Nat → σ → Shared → Prop) : ∀ (is : List α) (o : Nat) (st : σ) (s : Shared), J o st s →
    (∀ j it st s, is[j]? = some it → J (o + j) st s → wpAny (model pr w) A (B it st) (fun r s' => ∃ st', r = .yield st' ∧ J (o + j + 1) st' s') E s) →
    wpAny (model pr w) A (forIn is st B) (fun st s' => J (o + is.length) st s') E s
  | [], o, st, s, h0, _ => by
    rw [List.forIn_nil]
    exact wpAny_pure h0
  | it :: is, o, st, s, h0, hs => by
    rw [List.forIn_cons]
    refine wpAny_bind (wpAny_mono (hs 0 it st s rfl h0) (fun r s' h => ?_) fun _ _ x => x)
    obtain ⟨st', rfl, h1⟩ := h
    have z := steps J is (o + 1) st' s' h1 fun j it' st s e h => by
      have e1 : o + 1 + j = o + (j + 1) := by omega
      rw [e1] at h ⊢
      exact hs (j + 1) it' st s e h
    have e2 : o + (it :: is).length = o + 1 + is.length := by rw [List.length_cons]; omega
    rw [e2]
    exact z
/-- a zip of iterators -/
abbrev IsTup (h : Heap) (T : Addr) (vs : List Value) : Prop := h.get? T = some { cls := .type "tuple", data := .seq vs.toArray }
structure Apart (z TI TO : Addr) (is as : List Addr) : Prop where
  nd : is.Nodup
  zi : z ∉ is
  TIi : TI ∉ is
  TOi : TO ∉ is
  TIz : TI ≠ z
  TOz : TO ≠ z
  TITO : TI ≠ TO
  ai : ∀ a ∈ as, a ∉ is
  az : ∀ a ∈ as, a ≠ z
  aTO : ∀ a ∈ as, a ≠ TO
def Its (k : Kd) (h : Heap) (is as : List Addr) (lo hi i : Nat) : Prop := ∀ (j : Nat) (it a : Addr), lo ≤ j → j < hi → is[j]? = some it → as[j]? = some a → Itr k h it a i
def Sqs (k : Kd) (h : Heap) (as : List Addr) (xss : List (List Value)) : Prop := ∀ (j : Nat) (a : Addr) (xs : List Value), as[j]? = some a → xss[j]? = some xs → Sqh k h a xs.toArray
theorem sqh_keep {k : Kd} {h h' : Heap} {a : Addr} {its : Array Value} (x : Sqh k h a its) (kp : ∀ o, h.get? a = some o → h'.get? a = some o) : Sqh k h' a its := by
  cases k with
  | l => exact x.at kp
  | t => exact x.at kp
theorem nd_inj {as : List Addr} (h : as.Nodup) {i j : Nat} {a : Addr} (h1 : as[i]? = some a) (h2 : as[j]? = some a) : i = j := by
  obtain ⟨hi, e1⟩ := List.getElem?_eq_some_iff.mp h1
  obtain ⟨hj, e2⟩ := List.getElem?_eq_some_iff.mp h2
  have pw := List.pairwise_iff_getElem.mp h
  rcases Nat.lt_trichotomy i j with l | l | l
  · exact absurd (e1.trans e2.symm) (pw i j hi hj l)
  · exact l
  · exact absurd (e2.trans e1.symm) (pw j i hj hi l)
/-- the i-th items of all -/
structure Col (xss : List (List Value)) (i : Nat) (row : List Value) : Prop where
  len : row.length = xss.length
  get : ∀ {j : Nat} {xs : List Value}, xss[j]? = some xs → ∃ v, xs[i]? = some v ∧ row[j]? = some v
theorem take_one {α : Type} {l : List α} {j : Nat} {v : α} (h : l[j]? = some v) : l.take (j + 1) = l.take j ++ [v] := by
  rw [List.take_add_one, h]
  rfl
theorem not_empty {is : List Addr} (h : is ≠ []) : (is.map Value.ref).toArray.isEmpty = false := by
  cases is with
  | nil => exact absurd rfl h
  | cons a b => rfl
theorem next_held {z TI TO T : Addr} {f : Bool} {oT : Obj} {i : Nat} {k : Kd} {is as : List Addr} {xss : List (List Value)} {row : List Value} {Q : Value → Shared → Prop} (D : Apart z TI TO is as)
    (hz : IsZipHeld s.heap z TI TO T f) (hT : s.heap.get? T = some oT) (hTI : IsTup s.heap TI (is.map Value.ref)) (hit : Its k s.heap is as 0 is.length i) (hsq : Sqs k s.heap as xss) (la : as.length = is.length) (lx : xss.length = is.length) (col : Col xss i row) (hne : is ≠ []) (hsz : row.length ≤ sizeLine)
    (hQ : ∀ h', IsZipHeld h' z TI TO T true → Its k h' is as 0 is.length (i + 1) → IsTup h' s.heap.objs.size row → h'.objs.size = s.heap.objs.size + 1 → (∀ c o, c ≠ z → c ∉ is → s.heap.get? c = some o → h'.get? c = some o) → Q (.ref s.heap.objs.size) { s with heap := h' }) :
    wpAny (model pr w) A (Builtin.«zip.__next__» ⟨[.ref z], []⟩) (fun fin s' => ∃ v, fin = .done (.ret v) ∧ Q v s') E s := by
  show wpAny _ _ (field (.ref z) 2 >>= _) _ _ _
  refine wpAny_bind (wpAny_field hz rfl (x := .bool false) rfl ?_)
  show wpAny _ _ (field (.ref z) 3 >>= _) _ _ _
  refine wpAny_bind (wpAny_field hz rfl (x := .ref TI) rfl ?_)
  refine wpAny_bind (wpAny_seqItems hTI rfl ?_)
  dsimp only
  rw [not_empty hne]
  simp only [Bool.false_eq_true, if_false]
  refine wpAny_bind (wpAny_tupleHeld_zip hz hT fun h₁ hz₁ hs₁ => ?_)
  simp only [Bool.false_eq_true, if_false]
  refine wpAny_bind ?_
  rw [← Array.forIn_toList]
  have rl := col.len
  refine wpAny_mono (steps (fun j (st : Option PySem.Fin × Array Value) s' => st.1 = none ∧ st.2.toList = row.take j ∧ ∃ h', s' = { s with heap := h' } ∧ h'.objs.size = s.heap.objs.size ∧ IsZipHeld h' z TI TO T true ∧ Its k h' is as 0 j (i + 1) ∧ Its k h' is as j is.length i ∧ ∀ c o, c ≠ z → c ∉ is → s.heap.get? c = some o → h'.get? c = some o)
    _ 0 _ _ ⟨rfl, rfl, h₁, rfl, hs₁.1, hz₁, fun j it a _ h2 => absurd h2 (Nat.not_lt_zero _), fun j it a h1 h2 e1 e2 => itr_keep (hit j it a h1 h2 e1 e2) fun o e => hs₁.extBut _ _ (fun q => D.zi (by rw [← q]; exact List.mem_of_getElem? e1)) e, fun c o c1 _ e => hs₁.extBut _ _ c1 e⟩ ?_) ?_ fun _ _ x => x
  · rintro j it ⟨r, items⟩ s' ej ⟨rfl, hi, h', rfl, hsz', hz', d1, d2, kp⟩
    rw [Nat.zero_add] at *
    dsimp only at hi
    have ej' : (is.map Value.ref)[j]? = some it := by simpa using ej
    rw [List.getElem?_map] at ej'
    obtain ⟨q, eq, rfl⟩ := Option.map_eq_some_iff.mp ej'
    have hj : j < is.length := (List.getElem?_eq_some_iff.mp eq).1
    have ea : as[j]? = some (as[j]'(by omega)) := List.getElem?_eq_getElem (by omega)
    have ex : xss[j]? = some (xss[j]'(by omega)) := List.getElem?_eq_getElem (by omega)
    obtain ⟨v, ev, er⟩ := col.get ex
    have ma := List.mem_of_getElem? ea
    have mq := List.mem_of_getElem? eq
    refine wpAny_bind (wpAny_holding ?_)
    show wpAny _ _ (Builtin.SmallTypes.nextOf (.ref q) >>= _) _ _ _
    refine wpAny_bind (nx_item k (s := { s with heap := h' }) (x := v) (d2 j q _ (Nat.le_refl _) hj eq ea) (sqh_keep (hsq j _ _ ea ex) fun o e => kp _ o (D.az _ ma) (D.ai _ ma) e) (by simpa using ev) fun h₂ hq₂ hs₂ => wpAny_pure ?_)
    refine wpAny_pure ⟨_, rfl, rfl, ?_, h₂, rfl, by rw [hs₂.1]; exact hsz', hs₂.extBut _ _ (fun e => D.zi (by rw [e]; exact mq)) hz', fun j' it' a' l1 l2 e1 e2 => ?_, fun j' it' a' l1 l2 e1 e2 => ?_, fun c o c1 c2 e => hs₂.extBut _ _ (fun e' => c2 (by rw [e']; exact mq)) (kp c o c1 c2 e)⟩
    · show (items.push v).toList = _
      rw [Array.toList_push, hi, take_one er]
    · by_cases e : j' = j
      · subst e
        rw [eq] at e1
        rw [ea] at e2
        cases e1
        cases e2
        exact hq₂
      · exact itr_keep (d1 j' it' a' l1 (by omega) e1 e2) fun o eo => hs₂.extBut _ _ (fun e' => e (nd_inj D.nd e1 (by rw [e']; exact eq))) eo
    · exact itr_keep (d2 j' it' a' (by omega) l2 e1 e2) fun o eo => hs₂.extBut _ _ (fun e' => absurd (nd_inj D.nd e1 (by rw [e']; exact eq)) (by omega)) eo
  · rintro ⟨r, items⟩ s' ⟨rfl, hi, h', rfl, hsz', hz', d1, d2, kp⟩
    have el : 0 + (List.map Value.ref is).toArray.toList.length = is.length := by simp
    rw [el] at hi d1
    dsimp only at hi
    rw [List.take_of_length_le (by omega)] at hi
    dsimp only
    rw [hi]
    refine wpAny_bind (wpAny_newTuple ?_ hsz)
    refine wpAny_pure ⟨_, rfl, ?_⟩
    have hp : IsTup (h'.push { cls := .type "tuple", data := .seq row.toArray }) h'.objs.size row := Heap.get?_push_size _ rfl
    have hz4 : (h'.push { cls := .type "tuple", data := .seq row.toArray }).objs.size = h'.objs.size + 1 := Heap.size_push ..
    show Q (.ref h'.objs.size) _
    rw [hsz'] at hp hz4 ⊢
    exact hQ _ (Heap.get?_push_of_some _ hz') (fun j it a l1 l2 e1 e2 => itr_keep (d1 j it a l1 l2 e1 e2) fun o e => Heap.get?_push_of_some _ e) hp hz4 fun c o c1 c2 e => Heap.get?_push_of_some _ (kp c o c1 c2 e)
theorem end_held {z TI TO T : Addr} {f : Bool} {oT : Obj} {i : Nat} {k : Kd} {is as : List Addr} {xss : List (List Value)} {Q : PySem.Fin → Shared → Prop} (hh : A.handled = none) (D : Apart z TI TO is as)
    (hz : IsZipHeld s.heap z TI TO T f) (hT : s.heap.get? T = some oT) (hTI : IsTup s.heap TI (is.map Value.ref)) (hit : Its k s.heap is as 0 is.length i) (hsq : Sqs k s.heap as xss) (la : as.length = is.length) (lx : xss.length = is.length) (hne : is ≠ []) (hend : ∀ xs ∈ xss, xs.length ≤ i)
    (hE : ∀ h' e, (∀ c o, c ≠ z → c ∉ is → s.heap.get? c = some o → h'.get? c = some o) → (∃ o, h'.get? e = some o ∧ o.cls = .type "StopIteration") → E (.ref e) { s with heap := h' }) :
    wpAny (model pr w) A (Builtin.«zip.__next__» ⟨[.ref z], []⟩) Q E s := by
  show wpAny _ _ (field (.ref z) 2 >>= _) _ _ _
  refine wpAny_bind (wpAny_field hz rfl (x := .bool false) rfl ?_)
  show wpAny _ _ (field (.ref z) 3 >>= _) _ _ _
  refine wpAny_bind (wpAny_field hz rfl (x := .ref TI) rfl ?_)
  refine wpAny_bind (wpAny_seqItems hTI rfl ?_)
  dsimp only
  rw [not_empty hne]
  simp only [Bool.false_eq_true, if_false]
  refine wpAny_bind (wpAny_tupleHeld_zip hz hT fun h₁ hz₁ hs₁ => ?_)
  simp only [Bool.false_eq_true, if_false]
  refine wpAny_bind ?_
  rw [← Array.forIn_toList]
  cases is with
  | nil => exact absurd rfl hne
  | cons q is =>
    cases as with
    | nil => simp at la
    | cons a as =>
      cases xss with
      | nil => simp at lx
      | cons xs xss =>
        have hq := hit 0 q a (Nat.le_refl _) (by simp) rfl rfl
        have ha := hsq 0 a xs rfl rfl
        have na := D.az a (by simp)
        have nq := D.ai a (by simp)
        show wpAny _ _ (forIn (Value.ref q :: is.map Value.ref) _ _) _ _ _
        rw [List.forIn_cons]
        refine wpAny_bind (wpAny_bind (wpAny_holding ?_))
        show wpAny _ _ (Builtin.SmallTypes.nextOf (.ref q) >>= _) _ _ _
        refine wpAny_bind (nx_end k (s := { s with heap := h₁ }) hh (itr_keep hq fun o e => hs₁.extBut _ _ (fun e' => D.zi (by rw [← e']; simp)) e) (sqh_keep ha fun o e => hs₁.extBut _ _ na e) (by
          have := hend xs (by simp)
          simpa using this) fun h₂ e hs₂ he => ?_)
        exact hE h₂ e (fun c o c1 c2 x => hs₂ _ _ (fun e' => c2 (by rw [e']; simp)) (hs₁.extBut _ _ c1 x)) he
theorem upd_tup {T : Addr} {os : List Value} {x : Value} {j : Nat} {Q : Unit → Shared → Prop} (hT : IsTup s.heap T os) (hz : os.length ≤ sizeLine)
    (h : ∀ h', IsTup h' T (os.set j x) → Heap.SameBut T s.heap h' → Q () { s with heap := h' }) : wpAny (model pr w) A (updateSeq T (·.setIfInBounds j x)) Q E s := by
  refine wpAny_updateSeq hT rfl (h _ ?_ (Heap.SameBut.update ..)) (by simp; omega) (by simp; omega)
  show Heap.get? (s.heap.update T _) T = _
  rw [Heap.get?_update_self _ hT rfl]
  simp [Obj.mapSeq]
theorem next_owned {z TI TO : Addr} {i : Nat} {k : Kd} {is as : List Addr} {xss : List (List Value)} {row os : List Value} {Q : Value → Shared → Prop} (D : Apart z TI TO is as)
    (hz : IsZip s.heap z TI TO .none) (hTI : IsTup s.heap TI (is.map Value.ref)) (hTO : IsTup s.heap TO os) (lo : os.length = is.length) (hit : Its k s.heap is as 0 is.length i) (hsq : Sqs k s.heap as xss) (la : as.length = is.length) (lx : xss.length = is.length) (col : Col xss i row) (hne : is ≠ []) (hsz : row.length ≤ sizeLine)
    (hQ : ∀ h', IsZip h' z TI TO (rawInt s.heap.objs.size) → IsTup h' TO row → Its k h' is as 0 is.length (i + 1) → IsTup h' s.heap.objs.size row → h'.objs.size = s.heap.objs.size + 1 → (∀ c o, c ≠ z → c ≠ TO → c ∉ is → s.heap.get? c = some o → h'.get? c = some o) → Q (.ref s.heap.objs.size) { s with heap := h' }) :
    wpAny (model pr w) A (Builtin.«zip.__next__» ⟨[.ref z], []⟩) (fun fin s' => ∃ v, fin = .done (.ret v) ∧ Q v s') E s := by
  show wpAny _ _ (field (.ref z) 2 >>= _) _ _ _
  refine wpAny_bind (wpAny_field hz rfl (x := .bool false) rfl ?_)
  show wpAny _ _ (field (.ref z) 3 >>= _) _ _ _
  refine wpAny_bind (wpAny_field hz rfl (x := .ref TI) rfl ?_)
  refine wpAny_bind (wpAny_seqItems hTI rfl ?_)
  dsimp only
  rw [not_empty hne]
  simp only [Bool.false_eq_true, if_false]
  refine wpAny_bind ?_
  unfold Builtin.SmallTypes.ownedTupleIsFree
  refine wpAny_bind (wpAny_field hz rfl (x := .none) rfl (wpAny_pure ?_))
  simp only [if_true]
  refine wpAny_bind (wpAny_rule ?_)
  refine wpAny_bind (wpAny_field hz rfl (x := .ref TO) rfl ?_)
  refine wpAny_bind (wpAny_setField_rec hz (by simp) fun h₁ hz₁ hs₁ => ?_)
  replace hz₁ : IsZip h₁ z TI TO .ellipsis := hz₁
  refine wpAny_bind ?_
  have rl := col.len
  refine wpAny_mono (steps (fun j (st : Option PySem.Fin × Unit) s' => st.1 = none ∧ ∃ h' os', s' = { s with heap := h' } ∧ h'.objs.size = s.heap.objs.size ∧ IsZip h' z TI TO .ellipsis ∧ IsTup h' TO os' ∧ os'.length = is.length ∧ os'.take j = row.take j ∧ Its k h' is as 0 j (i + 1) ∧ Its k h' is as j is.length i ∧ ∀ c o, c ≠ z → c ≠ TO → c ∉ is → s.heap.get? c = some o → h'.get? c = some o)
    _ 0 _ _ ⟨rfl, h₁, os, rfl, hs₁.1, hz₁, hs₁.extBut _ _ D.TOz hTO, lo, rfl, fun j it a _ h2 => absurd h2 (Nat.not_lt_zero _), fun j it a h1 h2 e1 e2 => itr_keep (hit j it a h1 h2 e1 e2) fun o e => hs₁.extBut _ _ (fun q => D.zi (by rw [← q]; exact List.mem_of_getElem? e1)) e, fun c o c1 _ _ e => hs₁.extBut _ _ c1 e⟩ ?_) ?_ fun _ _ x => x
  · rintro j ⟨it, jj⟩ ⟨r, u⟩ s' ej ⟨rfl, h', os', rfl, hsz', hz', ht', lo', hto, d1, d2, kp⟩
    rw [Nat.zero_add] at *
    have ej' : (is.map Value.ref).zipIdx[j]? = some (it, jj) := by simpa using ej
    rw [List.getElem?_zipIdx, List.getElem?_map] at ej'
    obtain ⟨y, ey, e2⟩ := Option.map_eq_some_iff.mp ej'
    obtain ⟨q, eq, rfl⟩ := Option.map_eq_some_iff.mp ey
    cases e2
    rw [Nat.zero_add]
    have hj : j < is.length := (List.getElem?_eq_some_iff.mp eq).1
    have ea : as[j]? = some (as[j]'(by omega)) := List.getElem?_eq_getElem (by omega)
    have ex : xss[j]? = some (xss[j]'(by omega)) := List.getElem?_eq_getElem (by omega)
    obtain ⟨v, ev, er⟩ := col.get ex
    have ma := List.mem_of_getElem? ea
    have mq := List.mem_of_getElem? eq
    refine wpAny_bind (wpAny_onRaise ?_)
    show wpAny _ _ (Builtin.SmallTypes.nextOf (.ref q) >>= _) _ _ _
    refine wpAny_bind (nx_item k (s := { s with heap := h' }) (x := v) (d2 j q _ (Nat.le_refl _) hj eq ea) (sqh_keep (hsq j _ _ ea ex) fun o e => kp _ o (D.az _ ma) (D.aTO _ ma) (D.ai _ ma) e) (by simpa using ev) fun h₂ hq₂ hs₂ => wpAny_pure ?_)
    have nTq : TO ≠ q := fun e => D.TOi (by rw [e]; exact mq)
    have nzq : z ≠ q := fun e => D.zi (by rw [e]; exact mq)
    have ht₂ : IsTup h₂ TO os' := hs₂.extBut _ _ nTq ht'
    dsimp only
    refine wpAny_bind (wpAny_seqItems ht₂ rfl ?_)
    refine wpAny_bind (upd_tup (s := { s with heap := h₂ }) ht₂ (by omega) fun h₃ ht₃ hs₃ => ?_)
    refine wpAny_bind (wpAny_letGo (wpAny_pure ?_))
    refine ⟨_, rfl, rfl, h₃, _, rfl, by rw [hs₃.1]; show h₂.objs.size = _; rw [hs₂.1]; exact hsz', hs₃.extBut _ _ D.TOz.symm (hs₂.extBut _ _ nzq hz'), ht₃, by rw [List.length_set]; exact lo', ?_, fun j' it' a' l1 l2 e1 e2 => ?_, fun j' it' a' l1 l2 e1 e2 => ?_, fun c o c1 c2 c3 e => hs₃.extBut _ _ c2 (hs₂.extBut _ _ (fun e' => c3 (by rw [e']; exact mq)) (kp c o c1 c2 c3 e))⟩
    · have e3 : (os'.set j v)[j]? = some v := by
        rw [List.getElem?_set_self (by omega)]
      rw [take_one e3, take_one er, List.take_set_of_le (Nat.le_refl _), hto]
    · have n' : it' ≠ TO := fun e => D.TOi (by rw [← e]; exact List.mem_of_getElem? e1)
      by_cases e : j' = j
      · subst e
        rw [eq] at e1
        rw [ea] at e2
        cases e1
        cases e2
        exact itr_keep hq₂ fun o eo => hs₃.extBut _ _ n' eo
      · exact itr_keep (d1 j' it' a' l1 (by omega) e1 e2) fun o eo => hs₃.extBut _ _ n' (hs₂.extBut _ _ (fun e' => e (nd_inj D.nd e1 (by rw [e']; exact eq))) eo)
    · have n' : it' ≠ TO := fun e => D.TOi (by rw [← e]; exact List.mem_of_getElem? e1)
      exact itr_keep (d2 j' it' a' (by omega) l2 e1 e2) fun o eo => hs₃.extBut _ _ n' (hs₂.extBut _ _ (fun e' => absurd (nd_inj D.nd e1 (by rw [e']; exact eq)) (by omega)) eo)
  · rintro ⟨r, u⟩ s' ⟨rfl, h', os', rfl, hsz', hz', ht', lo', hto, d1, d2, kp⟩
    have el : 0 + ((List.map Value.ref is).toArray.toList.zipIdx).length = is.length := by simp
    rw [el] at hto d1
    rw [List.take_of_length_le (by omega), List.take_of_length_le (by omega)] at hto
    subst hto
    dsimp only
    refine wpAny_bind (wpAny_seqItems ht' rfl ?_)
    dsimp only
    refine wpAny_bind (wpAny_newTuple ?_ hsz)
    have hzlt : z < h'.objs.size := Heap.lt_size hz'
    show wpAny _ _ (Builtin.SmallTypes.ownedTupleHandOut (.ref z) (.ref h'.objs.size) >>= _) _ _ _
    refine wpAny_bind ?_
    unfold Builtin.SmallTypes.ownedTupleHandOut
    have hz₆ : IsZip (h'.push { cls := .type "tuple", data := .seq os'.toArray }) z TI TO .ellipsis := Heap.get?_push_of_some _ hz'
    refine wpAny_bind (wpAny_setField_rec hz₆ (by simp) fun h₇ hz₇ hs₇ => ?_)
    replace hz₇ : IsZip h₇ z TI TO (rawInt h'.objs.size) := hz₇
    refine wpAny_setField_rec hz₇ (by simp) fun h₈ hz₈ hs₈ => ?_
    replace hz₈ : IsZip h₈ z TI TO (rawInt h'.objs.size) := hz₈
    have up : ∀ c o, c ≠ z → h'.get? c = some o → h₈.get? c = some o := fun c o c1 e => hs₈.extBut _ _ c1 (hs₇.extBut _ _ c1 (Heap.get?_push_of_some _ e))
    have hT₈ : IsTup h₈ h'.objs.size os' := hs₈.extBut _ _ (Nat.ne_of_gt hzlt) (hs₇.extBut _ _ (Nat.ne_of_gt hzlt) (Heap.get?_push_size _ rfl))
    have hz8 : h₈.objs.size = h'.objs.size + 1 := by rw [hs₈.1, hs₇.1, Heap.size_push]
    rw [hsz'] at hz₈ hT₈ hz8
    refine wpAny_pure ⟨_, rfl, ?_⟩
    show Q (.ref h'.objs.size) _
    rw [hsz']
    exact hQ h₈ hz₈ (up _ _ D.TOz ht') (fun j it a l1 l2 e1 e2 => itr_keep (d1 j it a l1 l2 e1 e2) fun o e => up _ o (fun q => D.zi (by rw [← q]; exact List.mem_of_getElem? e1)) e) hT₈ hz8 fun c o c1 c2 c3 e => up c o c1 (kp c o c1 c2 c3 e)
theorem end_owned {z TI TO : Addr} {i : Nat} {k : Kd} {is as : List Addr} {xss : List (List Value)} {Q : PySem.Fin → Shared → Prop} (hh : A.handled = none) (D : Apart z TI TO is as)
    (hz : IsZip s.heap z TI TO .none) (hTI : IsTup s.heap TI (is.map Value.ref)) (hit : Its k s.heap is as 0 is.length i) (hsq : Sqs k s.heap as xss) (la : as.length = is.length) (lx : xss.length = is.length) (hne : is ≠ []) (hend : ∀ xs ∈ xss, xs.length ≤ i)
    (hE : ∀ h' e, (∀ c o, c ≠ z → c ∉ is → s.heap.get? c = some o → h'.get? c = some o) → (∃ o, h'.get? e = some o ∧ o.cls = .type "StopIteration") → E (.ref e) { s with heap := h' }) :
    wpAny (model pr w) A (Builtin.«zip.__next__» ⟨[.ref z], []⟩) Q E s := by
  show wpAny _ _ (field (.ref z) 2 >>= _) _ _ _
  refine wpAny_bind (wpAny_field hz rfl (x := .bool false) rfl ?_)
  show wpAny _ _ (field (.ref z) 3 >>= _) _ _ _
  refine wpAny_bind (wpAny_field hz rfl (x := .ref TI) rfl ?_)
  refine wpAny_bind (wpAny_seqItems hTI rfl ?_)
  dsimp only
  rw [not_empty hne]
  simp only [Bool.false_eq_true, if_false]
  refine wpAny_bind ?_
  unfold Builtin.SmallTypes.ownedTupleIsFree
  refine wpAny_bind (wpAny_field hz rfl (x := .none) rfl (wpAny_pure ?_))
  simp only [if_true]
  refine wpAny_bind (wpAny_rule ?_)
  refine wpAny_bind (wpAny_field hz rfl (x := .ref TO) rfl ?_)
  refine wpAny_bind (wpAny_setField_rec hz (by simp) fun h₁ hz₁ hs₁ => ?_)
  replace hz₁ : IsZip h₁ z TI TO .ellipsis := hz₁
  refine wpAny_bind ?_
  cases is with
  | nil => exact absurd rfl hne
  | cons q is =>
    cases as with
    | nil => simp at la
    | cons a as =>
      cases xss with
      | nil => simp at lx
      | cons xs xss =>
        have hq := hit 0 q a (Nat.le_refl _) (by simp) rfl rfl
        have ha := hsq 0 a xs rfl rfl
        have na := D.az a (by simp)
        have nzq : z ≠ q := fun e => D.zi (by rw [e]; simp)
        show wpAny _ _ (forIn ((Value.ref q :: is.map Value.ref).zipIdx) _ _) _ _ _
        rw [List.zipIdx_cons, List.forIn_cons]
        refine wpAny_bind (wpAny_bind (wpAny_onRaise ?_))
        show wpAny _ _ (Builtin.SmallTypes.nextOf (.ref q) >>= _) _ _ _
        refine wpAny_bind (nx_end k (s := { s with heap := h₁ }) hh (itr_keep hq fun o e => hs₁.extBut _ _ nzq.symm e) (sqh_keep ha fun o e => hs₁.extBut _ _ na e) (by
          have := hend xs (by simp)
          simpa using this) fun h₂ e hs₂ he => ?_)
        obtain ⟨oe, hoe, hce⟩ := he
        have hz₂ : IsZip h₂ z TI TO .ellipsis := hs₂ _ _ nzq hz₁
        have hez : e ≠ z := fun x => by subst x; rw [hz₂] at hoe; cases hoe; simp at hce
        refine wpAny_setField_rec hz₂ (by simp) fun h₃ _ hs₃ => hE h₃ e (fun c o c1 c2 x => hs₃.extBut _ _ c1 (hs₂ _ _ (fun e' => c2 (by rw [e']; simp)) (hs₁.extBut _ _ c1 x))) ⟨oe, hs₃.extBut _ _ hez hoe, hce⟩
end
theorem it_of (k : Kd) {pr : Program} {w : World} {A : Around} {E : Value → Shared → Prop} {s : Shared} {a : Addr} {items : Array Value} {Q : Value → Shared → Prop} (hl : Sqh k s.heap a items)
    (hQ : ∀ h', Itr k h' s.heap.objs.size a 0 → h'.objs.size = s.heap.objs.size + 1 → (∀ c o, s.heap.get? c = some o → h'.get? c = some o) → Q (.ref s.heap.objs.size) { s with heap := h' }) : wpAny (model pr w) A (pyIter (.ref a)) Q E s := match k, hl, hQ with
  | .l, hl, hQ => wpAny_pyIter_list hl (hQ _ ⟨_, Heap.get?_push_size _ rfl, rfl, rfl⟩ (Heap.size_push ..) fun c o e => Heap.get?_push_of_some _ e)
  | .t, hl, hQ => wpAny_pyIter_tuple hl (hQ _ ⟨_, Heap.get?_push_size _ rfl, rfl, rfl⟩ (Heap.size_push ..) fun c o e => Heap.get?_push_of_some _ e)
def isF (n0 n : Nat) : List Addr := (List.range n).map fun j => n0 + j
theorem isF_get {n0 n j : Nat} (h : j < n) : (isF n0 n)[j]? = some (n0 + j) := by
  unfold isF
  rw [List.getElem?_map, List.getElem?_range h]
  rfl
theorem isF_len {n0 n : Nat} : (isF n0 n).length = n := by
  unfold isF
  rw [List.length_map, List.length_range]
theorem isF_succ {n0 n : Nat} : isF n0 (n + 1) = isF n0 n ++ [n0 + n] := by
  unfold isF
  rw [List.range_succ, List.map_append]
  rfl
section
variable {pr : Program} {w : World} {A : Around} {E : Value → Shared → Prop} {s : Shared}
theorem all_ (k : Kd) {as : List Addr} {xss : List (List Value)} {Q : List Value → Shared → Prop} (hsq : Sqs k s.heap as xss) (lx : xss.length = as.length)
    (hQ : ∀ h', Its k h' (isF s.heap.objs.size as.length) as 0 as.length 0 → h'.objs.size = s.heap.objs.size + as.length → (∀ c o, s.heap.get? c = some o → h'.get? c = some o) → Q ((isF s.heap.objs.size as.length).map Value.ref) { s with heap := h' }) :
    wpAny (model pr w) A (Builtin.SmallTypes.iterAll (as.map Value.ref)) Q E s := by
  unfold Builtin.SmallTypes.iterAll
  refine wpAny_bind (wpAny_mono (steps (fun j (st : Array Value) s' => st.toList = (isF s.heap.objs.size j).map Value.ref ∧ ∃ h', s' = { s with heap := h' } ∧ h'.objs.size = s.heap.objs.size + j ∧ Its k h' (isF s.heap.objs.size as.length) as 0 j 0 ∧ ∀ c o, s.heap.get? c = some o → h'.get? c = some o)
    _ 0 _ _ ⟨rfl, s.heap, rfl, rfl, fun j it a _ h2 => absurd h2 (Nat.not_lt_zero _), fun _ _ e => e⟩ ?_) ?_ fun _ _ x => x)
  · rintro j x st s' ej ⟨hi, h', rfl, hs, d1, kp⟩
    rw [Nat.zero_add] at *
    rw [List.getElem?_map] at ej
    obtain ⟨a, ea, rfl⟩ := Option.map_eq_some_iff.mp ej
    have hj : j < as.length := (List.getElem?_eq_some_iff.mp ea).1
    have ex : xss[j]? = some (xss[j]'(by omega)) := List.getElem?_eq_getElem (by omega)
    refine wpAny_bind (wpAny_holding (it_of k (s := { s with heap := h' }) (sqh_keep (hsq j a _ ea ex) fun o e => kp _ o e) fun h₂ i₂ s₂ k₂ => wpAny_pure ⟨_, rfl, ?_, h₂, rfl, ?_, fun j' it' a' l1 l2 e1 e2 => ?_, fun c o e => k₂ c o (kp c o e)⟩))
    · rw [Array.toList_push, hi, isF_succ, List.map_append]
      show _ ++ [Value.ref h'.objs.size] = _
      rw [hs]
      rfl
    · rw [s₂]
      show h'.objs.size + 1 = _
      omega
    · by_cases e : j' = j
      · subst e
        rw [isF_get hj] at e1
        rw [ea] at e2
        cases e1
        cases e2
        rw [← hs]
        exact i₂
      · exact itr_keep (d1 j' it' a' l1 (by omega) e1 e2) fun o eo => k₂ _ o eo
  · rintro st s' ⟨hi, h', rfl, hs, d1, kp⟩
    have el : 0 + (as.map Value.ref).length = as.length := by simp
    rw [el] at hi hs d1
    refine wpAny_pure ?_
    rw [hi]
    exact hQ h' d1 hs kp
end
theorem meets_new (k : Kd) (as : List Addr) (xss : List (List Value)) :
    Meets (Builtin.«zip.__new__» ⟨.type "zip" :: as.map Value.ref, []⟩) (fun _ R s => Sqs k s.heap as xss ∧ xss.length = as.length ∧ as.length ≤ sizeLine ∧ ∀ h', IsZip h' (s.heap.objs.size + as.length + 2) (s.heap.objs.size + as.length) (s.heap.objs.size + as.length + 1) .none → IsTup h' (s.heap.objs.size + as.length) ((isF s.heap.objs.size as.length).map Value.ref) → IsTup h' (s.heap.objs.size + as.length + 1) (List.replicate as.length .none) →
      Its k h' (isF s.heap.objs.size as.length) as 0 as.length 0 → (∀ c o, s.heap.get? c = some o → h'.get? c = some o) → h'.objs.size = s.heap.objs.size + as.length + 3 → R (.ok (.ret (.ref (s.heap.objs.size + as.length + 2)))) { s with heap := h' }) :=
  .of_wp fun prog w A R s h => by
    have hsub := sub_zip
    obtain ⟨hsq, lx, ln, hR⟩ := h
    unfold Builtin.«zip.__new__»
    have e1 : Builtin.SmallTypes.newClass "zip" ⟨.type "zip" :: as.map Value.ref, []⟩ = pure (.type "zip", as.map Value.ref) := by
      unfold Builtin.SmallTypes.newClass
      simp [isType, hsub]
    rw [e1]
    refine wpAny_bind (wpAny_pure ?_)
    dsimp only
    simp only [List.length_nil, Nat.not_lt_zero, gt_iff_lt, if_false]
    refine wpAny_bind (all_ k hsq lx fun h₁ d1 z1 k1 => ?_)
    have lm : ((isF s.heap.objs.size as.length).map Value.ref).length = as.length := by rw [List.length_map, isF_len]
    refine wpAny_bind (wpAny_newTuple ?_ (by rw [lm]; exact ln))
    have em : ((isF s.heap.objs.size as.length).map Value.ref).map (fun _ => Value.none) = List.replicate as.length Value.none := by
      rw [List.map_const', lm]
    rw [em]
    refine wpAny_bind (wpAny_newTuple ?_ (by rw [List.length_replicate]; exact ln))
    have zs1 : (h₁.push { cls := Value.type "tuple", data := Data.seq ((isF s.heap.objs.size as.length).map Value.ref).toArray }).objs.size = s.heap.objs.size + as.length + 1 := by rw [Heap.size_push, z1]
    have g1 : (h₁.push { cls := Value.type "tuple", data := Data.seq ((isF s.heap.objs.size as.length).map Value.ref).toArray }).get? h₁.objs.size = some { cls := Value.type "tuple", data := Data.seq ((isF s.heap.objs.size as.length).map Value.ref).toArray } := Heap.get?_push_size _ rfl
    have k2 : ∀ c o, h₁.get? c = some o → (h₁.push { cls := Value.type "tuple", data := Data.seq ((isF s.heap.objs.size as.length).map Value.ref).toArray }).get? c = some o := fun c o e => Heap.get?_push_of_some _ e
    dsimp only
    generalize h₁.push { cls := Value.type "tuple", data := Data.seq ((isF s.heap.objs.size as.length).map Value.ref).toArray } = h₂ at zs1 g1 k2 ⊢
    have zs2 : (h₂.push { cls := Value.type "tuple", data := Data.seq (List.replicate as.length Value.none).toArray }).objs.size = s.heap.objs.size + as.length + 2 := by rw [Heap.size_push, zs1]
    have g2 : (h₂.push { cls := Value.type "tuple", data := Data.seq (List.replicate as.length Value.none).toArray }).get? h₂.objs.size = some { cls := Value.type "tuple", data := Data.seq (List.replicate as.length Value.none).toArray } := Heap.get?_push_size _ rfl
    have k3 : ∀ c o, h₂.get? c = some o → (h₂.push { cls := Value.type "tuple", data := Data.seq (List.replicate as.length Value.none).toArray }).get? c = some o := fun c o e => Heap.get?_push_of_some _ e
    generalize h₂.push { cls := Value.type "tuple", data := Data.seq (List.replicate as.length Value.none).toArray } = h₃ at zs2 g2 k3 ⊢
    have g3 : (h₃.push { cls := Value.type "zip", data := .fields #[.none, .bool false, .bool false, .ref h₁.objs.size, .ref h₂.objs.size] }).get? h₃.objs.size = some { cls := Value.type "zip", data := .fields #[.none, .bool false, .bool false, .ref h₁.objs.size, .ref h₂.objs.size] } := Heap.get?_push_size _ rfl
    have k4 : ∀ c o, h₃.get? c = some o → (h₃.push { cls := Value.type "zip", data := .fields #[.none, .bool false, .bool false, .ref h₁.objs.size, .ref h₂.objs.size] }).get? c = some o := fun c o e => Heap.get?_push_of_some _ e
    have zs3 : (h₃.push { cls := Value.type "zip", data := .fields #[.none, .bool false, .bool false, .ref h₁.objs.size, .ref h₂.objs.size] }).objs.size = s.heap.objs.size + as.length + 3 := by rw [Heap.size_push, zs2]
    show wpAny _ _ (newObj (.type "zip") (.fields #[.none, .bool false, .bool false, .ref h₁.objs.size, .ref h₂.objs.size]) >>= _) _ _ _
    refine wpAny_bind (wpAny_newObj_type (wpAny_pure ⟨_, rfl, ?_⟩) ?_)
    · rw [z1, zs1, zs2] at g3
      rw [z1] at g1
      rw [zs1] at g2
      dsimp only
      rw [zs2]
      rw [z1, zs1] at k4 zs3 ⊢
      exact hR _ g3 (k4 _ _ (k3 _ _ g1)) (k4 _ _ g2) (fun j it a l1 l2 e1 e2 => itr_keep (d1 j it a l1 l2 e1 e2) fun o e => k4 _ _ (k3 _ _ (k2 _ _ e))) (fun c o e => k4 _ _ (k3 _ _ (k2 _ _ (k1 c o e)))) zs3
    · show 5 ≤ sizeLine + 2
      decide
theorem typeCall (vs : List Value) : checkTypeCall "zip" ⟨vs, []⟩ = pure () := by kernel_rfl
theorem newCall : ∀ vs : List Value, checkBuiltinCall "zip.__new__" ⟨.type "zip" :: vs, []⟩ = pure ()
  | [] => by kernel_rfl
  | a :: vs => by kernel_rfl
theorem args_init (a : Value) (vs : List Value) : argsOk "object.__init__" ⟨a :: vs, []⟩ := by
  unfold argsOk; rw [signature?_of (id := "object.__init__") (n := ['_', '_', 't', 'i', 'n', 'i', '_', '_']) (o := ['t', 'c', 'e', 'j', 'b', 'o']) (by kernel_rfl) F.owner_object]; kernel_rfl
section
variable {pr : Program} {w : World} {A : Around} {E : Value → Shared → Prop} {s : Shared}
theorem call_zip_n (k : Kd) {as : List Addr} {xss : List (List Value)} {Q : Value → Shared → Prop} (hsq : Sqs k s.heap as xss) (lx : xss.length = as.length) (ln : as.length ≤ sizeLine)
    (h : ∀ h', IsZip h' (s.heap.objs.size + as.length + 2) (s.heap.objs.size + as.length) (s.heap.objs.size + as.length + 1) .none → IsTup h' (s.heap.objs.size + as.length) ((isF s.heap.objs.size as.length).map Value.ref) → IsTup h' (s.heap.objs.size + as.length + 1) (List.replicate as.length .none) →
      Its k h' (isF s.heap.objs.size as.length) as 0 as.length 0 → (∀ c o, s.heap.get? c = some o → h'.get? c = some o) → h'.objs.size = s.heap.objs.size + as.length + 3 → Q (.ref (s.heap.objs.size + as.length + 2)) { s with heap := h' }) :
    wpAny (model pr w) A (call (.type "zip") (as.map Value.ref)) Q E s := by
  refine callType_new F.called_zip (by decide) (typeCall _) (newCall _) (fun obj => args_init obj _) F.entry_zip_new (meets_new k as xss) ⟨hsq, lx, ln, fun h' z ti to it kp sz => ?_⟩
  exact ⟨⟨_, z, rfl⟩, h h' z ti to it kp sz⟩
/-! ### next of it -/
structure Zst (k : Kd) (h : Heap) (z TI TO : Addr) (is as : List Addr) (i : Nat) : Prop where
  zp : (i = 0 ∧ IsZip h z TI TO .none) ∨ ∃ T f o, IsZipHeld h z TI TO T f ∧ h.get? T = some o ∧ T ≠ z ∧ T ≠ TO ∧ T ∉ is
  ti : IsTup h TI (is.map Value.ref)
  to : ∃ os : List Value, IsTup h TO os ∧ os.length = is.length
  it : Its k h is as 0 is.length i
theorem Zst.lz {k : Kd} {h : Heap} {z TI TO : Addr} {is as : List Addr} {i : Nat} (Z : Zst k h z TI TO is as i) : z < h.objs.size := by
  rcases Z.zp with ⟨_, e⟩ | ⟨_, _, _, e, _⟩
  · exact Heap.lt_size e
  · exact Heap.lt_size e
theorem Zst.ty {k : Kd} {z TI TO : Addr} {is as : List Addr} {i : Nat} (Z : Zst k s.heap z TI TO is as i) : s.TypeIs (.ref z) "zip" := by
  rcases Z.zp with ⟨_, e⟩ | ⟨_, _, _, e, _⟩
  · exact ⟨_, e, rfl⟩
  · exact ⟨_, e, rfl⟩
theorem itr_lt {k : Kd} {h : Heap} {it a : Addr} {i : Nat} (x : Itr k h it a i) : it < h.objs.size := by
  obtain ⟨o, e, _⟩ := itr_obj x
  exact Heap.lt_size e
theorem next_ {k : Kd} {z TI TO : Addr} {is as : List Addr} {xss : List (List Value)} {row : List Value} {i : Nat} {Q : Option Value → Shared → Prop} (D : Apart z TI TO is as) (Z : Zst k s.heap z TI TO is as i) (hsq : Sqs k s.heap as xss) (la : as.length = is.length) (lx : xss.length = is.length) (col : Col xss i row) (hne : is ≠ []) (hsz : row.length ≤ sizeLine)
    (hQ : ∀ h', Zst k h' z TI TO is as (i + 1) → IsTup h' s.heap.objs.size row → (∀ c o, c ≠ z → c ≠ TO → c ∉ is → s.heap.get? c = some o → h'.get? c = some o) → Q (some (.ref s.heap.objs.size)) { s with heap := h' }) :
    wpAny (model pr w) A (pyNext (.ref z)) Q E s := by
  have ty := Z.ty
  have lz := Z.lz
  obtain ⟨zp, hTI, ⟨os, hTO, lo⟩, hit⟩ := Z
  have lT : TO < s.heap.objs.size := Heap.lt_size hTO
  have nis : s.heap.objs.size ∉ is := fun m => by
    obtain ⟨j, hj, e⟩ := List.mem_iff_getElem.mp m
    have := itr_lt (hit j is[j] (as[j]'(by omega)) (Nat.zero_le _) hj (List.getElem?_eq_getElem hj) (List.getElem?_eq_getElem (by omega)))
    rw [e] at this
    exact Nat.lt_irrefl _ this
  unfold pyNext
  rcases zp with ⟨_, hz⟩ | ⟨T, f, o, hz, hT, t1, t2, t3⟩
  · exact wpAny_bind (wpAny_attempt (wpAny_callSpecial?_slot (name := Str.ofString "__next__") ty F.slot_zip_next
      (wpAny_call_entry F.slot_zip_next ty F.entry_zip_next
        (next_owned D hz hTI hTO lo hit hsq la lx col hne hsz fun h' a1 a2 a3 a4 a5 a6 => wpAny_pure (hQ h' ⟨.inr ⟨_, false, _, a1, a4, Nat.ne_of_gt lz, Nat.ne_of_gt lT, nis⟩, a6 _ _ D.TIz D.TITO D.TIi hTI, ⟨_, a2, by rw [col.len]; exact lx⟩, a3⟩ a4 a6)) (F.args_zip_next_1 _))))
  · exact wpAny_bind (wpAny_attempt (wpAny_callSpecial?_slot (name := Str.ofString "__next__") ty F.slot_zip_next
      (wpAny_call_entry F.slot_zip_next ty F.entry_zip_next
        (next_held D hz hT hTI hit hsq la lx col hne hsz fun h' a1 a3 a4 a5 a6 => wpAny_pure (hQ h' ⟨.inr ⟨T, true, o, a1, a6 _ _ t1 t3 hT, t1, t2, t3⟩, a6 _ _ D.TIz D.TIi hTI, ⟨os, a6 _ _ D.TOz D.TOi hTO, lo⟩, a3⟩ a4 fun c o c1 _ c3 e => a6 c o c1 c3 e)) (F.args_zip_next_1 _))))
theorem last_ {k : Kd} {z TI TO : Addr} {is as : List Addr} {xss : List (List Value)} {i : Nat} {Q : Option Value → Shared → Prop} (hh : A.handled = none) (D : Apart z TI TO is as) (Z : Zst k s.heap z TI TO is as i) (hsq : Sqs k s.heap as xss) (la : as.length = is.length) (lx : xss.length = is.length) (hne : is ≠ []) (hend : ∀ xs ∈ xss, xs.length ≤ i)
    (hQ : ∀ h', (∀ c o, c ≠ z → c ∉ is → s.heap.get? c = some o → h'.get? c = some o) → Q none { s with heap := h' }) : wpAny (model pr w) A (pyNext (.ref z)) Q E s := by
  have ty := Z.ty
  obtain ⟨zp, hTI, _, hit⟩ := Z
  unfold pyNext
  refine wpAny_bind (wpAny_attempt (wpAny_callSpecial?_slot (name := Str.ofString "__next__") ty F.slot_zip_next (wpAny_call_entry F.slot_zip_next ty F.entry_zip_next ?_ (F.args_zip_next_1 _))))
  rcases zp with ⟨_, hz⟩ | ⟨T, f, o, hz, hT, t1, t2, t3⟩
  · refine end_owned hh D hz hTI hit hsq la lx hne hend fun h' e hk he => ?_
    obtain ⟨o, ho, hc⟩ := he
    refine wpAny_bind (wpAny_isInstance (T := "StopIteration") (b := true) ⟨o, ho, hc⟩ isSubtype_stop ?_)
    exact wpAny_pure (hQ _ hk)
  · refine end_held hh D hz hT hTI hit hsq la lx hne hend fun h' e hk he => ?_
    obtain ⟨o, ho, hc⟩ := he
    refine wpAny_bind (wpAny_isInstance (T := "StopIteration") (b := true) ⟨o, ho, hc⟩ isSubtype_stop ?_)
    exact wpAny_pure (hQ _ hk)
end
/-! ### list(zip(*xs)) -/
section
variable {M : Model} {A : Around} {E : Value → Shared → Prop} {s : Shared} {env : Env} {pos p : Pos} {Q : Value → Shared → Prop} {e : Expr}
theorem callWith_SType {T : String} (h : wpAny M A (eval e env) (fun v s₁ => PySem.W.StarOf M A E v (fun vs s₂ => wpAny M A (call (.type T) vs) Q E s₂) s₁) E s)
    (he : starEach [.Starred e p] env = [(true, eval e env)] := by rfl) : wpAny M A (callWith pos (.type T) [] (backTo pos (starEach [.Starred e p] env)) []) Q E s := by
  rw [he]
  refine PySem.W.ks_call (P := fun _ => True) rfl (fun h _ => ⟨.machine, .inr (.inl rfl), PySem.W.Looks.of_pure rfl⟩) (PySem.W.ks_lone ?_)
  have e2 : (fun vs s₂ => True ∧ wpAny M A (call (Value.type T) ([] ++ (⟨vs, []⟩ : Args).pos) (⟨vs, []⟩ : Args).kw) Q E s₂) = fun vs s₂ => wpAny M A (call (.type T) vs) Q E s₂ := by
    funext vs s₂
    exact propext ⟨fun h => h.2, fun h => ⟨trivial, h⟩⟩
  rw [e2]
  exact h
end
/-- the i-th items, as values told -/
def colV (xss : List (List V)) (i : Nat) : List V := xss.map fun xs => xs.getD i .non
/-- what stands behind list(zip(*xs)): new tuples, a new list of them -/
structure Zipped (H0 H : Hp) (S : Addr) (ts : List Addr) (xss : List (List V)) (m : Nat) : Prop where
  same : Same H0 H
  new : H0 S = none
  lst : H S = some (.lst (ts.map V.ref))
  len : ts.length = m
  get : ∀ (j : Nat) (t : Addr), ts[j]? = some t → H t = some (.tup (colV xss j))
def SqsV (k : Kd) (K : PySem.W.Frag) (H : Hp) (as : List Addr) (xss : List (List V)) : Prop := ∀ (j : Nat) (a : Addr) (xs : List V), as[j]? = some a → xss[j]? = some xs → Sq k K H a xs
theorem SqsV.tail {k : Kd} {K : PySem.W.Frag} {H : Hp} {a : Addr} {as : List Addr} {xs : List V} {xss : List (List V)} (h : SqsV k K H (a :: as) (xs :: xss)) : SqsV k K H as xss := fun j b ys e1 e2 => h (j + 1) b ys e1 e2
theorem sq_same {k : Kd} {K : PySem.W.Frag} {H H' : Hp} {a : Addr} {xs : List V} (s : Same H H') (q : Sq k K H a xs) : Sq k K H' a xs := by
  cases k with
  | l => exact s.seq q
  | t =>
    rcases q with q | q
    · rcases q with q | ⟨o, q⟩
      · exact .inl (.inl (s _ _ q))
      · exact .inl (.inr ⟨o, s _ _ q⟩)
    · exact .inr q
section
variable {X : Cx} {A : Around} {pn : List (Addr × Obj)} {σ : L2.St} {R : Result → Shared → Prop} {H H0 : Hp} {s : Shared}
theorem vals_all {k : Kd} (I : L2.Inv X pn σ H s) : ∀ {as : List Addr} {xss : List (List V)}, xss.length = as.length → SqsV k X.K H as xss → ∃ uss : List (List Value), uss.length = xss.length ∧ (∀ (j : Nat) (xs : List V), xss[j]? = some xs → ∃ us, uss[j]? = some us ∧ Vals xs us) ∧ Sqs k s.heap as uss ∧ ∀ a ∈ as, a < s.heap.objs.size
  | [], [], _, _ => ⟨[], rfl, fun j xs e => by simp at e, fun j a xs e => by simp at e, fun a ha => by cases ha⟩
  | [], _ :: _, e, _ => by simp at e
  | _ :: _, [], e, _ => by simp at e
  | a :: as, xs :: xss, e, q => by
    obtain ⟨us, r, sq, lt⟩ := at_ I (q 0 a xs rfl rfl)
    obtain ⟨uss, l1, l2, l3, l4⟩ := vals_all I (as := as) (xss := xss) (by simpa using e) q.tail
    refine ⟨us :: uss, by rw [List.length_cons, List.length_cons, l1], fun j ys ey => ?_, fun j b ys e1 e2 => ?_, fun b hb => ?_⟩
    · cases j with
      | zero => cases ey; exact ⟨us, rfl, r⟩
      | succ j => exact l2 j ys ey
    · cases j with
      | zero => cases e1; cases e2; exact sq
      | succ j => exact l3 j b ys e1 e2
    · rcases List.mem_cons.mp hb with rfl | hb
      · exact lt
      · exact l4 b hb
theorem col_of : ∀ {xss : List (List V)} {uss : List (List Value)} {m i : Nat}, uss.length = xss.length → (∀ (j : Nat) (xs : List V), xss[j]? = some xs → ∃ us, uss[j]? = some us ∧ Vals xs us) → (∀ xs ∈ xss, xs.length = m) → i < m → ∃ row, Col uss i row ∧ Vals (colV xss i) row
  | [], [], _, _, _, _, _, _ => ⟨[], ⟨rfl, fun e => by simp at e⟩, .nil⟩
  | [], _ :: _, _, _, e, _, _, _ => by simp at e
  | _ :: _, [], _, _, e, _, _, _ => by simp at e
  | xs :: xss, us :: uss, m, i, e, h, hm, hi => by
    obtain ⟨us', e1, r⟩ := h 0 xs rfl
    cases e1
    obtain ⟨row, c, v⟩ := col_of (xss := xss) (uss := uss) (m := m) (i := i) (by simpa using e) (fun j ys ey => h (j + 1) ys ey) (fun ys hy => hm ys (List.mem_cons_of_mem _ hy)) hi
    have hl := hm xs (by simp)
    have hx : xs[i]? = some (xs[i]'(by omega)) := List.getElem?_eq_getElem (by omega)
    obtain ⟨u, eu, ru⟩ := r.get hx
    have ed : xs.getD i V.non = xs[i]'(by omega) := by rw [List.getD_eq_getElem?_getD, hx]; rfl
    refine ⟨u :: row, ⟨by rw [List.length_cons, List.length_cons, c.len], fun {j ys} ej => ?_⟩, ?_⟩
    · cases j with
      | zero => cases ej; exact ⟨u, eu, rfl⟩
      | succ j => exact c.get (j := j) ej
    · show Vals (xs.getD i V.non :: colV xss i) (u :: row)
      rw [ed]
      exact .cons ru v
variable {z TI TO S : Addr} {is as : List Addr} {xss : List (List V)} {m : Nat} {k : Kd}
theorem loop (hh : A.in1.handled = none) (D : Apart z TI TO is as) (res : Value) (la : as.length = is.length) (lx : xss.length = as.length) (hm : ∀ xs ∈ xss, xs.length = m) (hn : m < sizeLine) (ha : as.length ≤ sizeLine) (hne : is ≠ []) (qs : SqsV k X.K H0 as xss) (h0S : H0 S = none) (nS : S ≠ z ∧ S ≠ TI ∧ S ≠ TO ∧ S ∉ is) :
    ∀ (n i : Nat) (s : Shared) (H : Hp) (ts : List Addr), m - i = n → i ≤ m → L2.Inv X pn σ H s → (∀ c ∈ z :: TI :: TO :: is, FpOk X pn H c) → Zst k s.heap z TI TO is as i →
      Same H0 H → H S = some (.lst (ts.map V.ref)) → ts.length = i → (∀ (j : Nat) (t : Addr), ts[j]? = some t → H t = some (.tup (colV xss j))) →
      (∀ (s' : Shared) (H' : Hp) (ts' : List Addr), L2.Inv X pn σ H' s' → Zipped H0 H' S ts' xss m → R (.ok (.ret res)) s') →
      codeAny (model X.prog X.w) A (.builtin "list.extend.loop" ⟨[.ref S, .ref z, res], []⟩) R s := by
  intro n
  induction n with
  | zero =>
    intro i s H ts hk hi I hf Z sm hS ht hg fin
    have e : i = m := by omega
    obtain ⟨uss, l1, l2, l3, l4⟩ := vals_all I lx (fun j a xs e1 e2 => sq_same sm (qs j a xs e1 e2))
    refine codeAny_builtin F.entry_extend_loop ?_
    rw [Around.under_plainId F.plain_extend_loop _]
    show wpAny _ A.in1 (pyNext (.ref z) >>= _) _ _ s
    refine wpAny_bind (last_ hh D Z l3 la (by omega) hne (fun us hu => ?_) fun h' kp => ?_)
    · obtain ⟨j, hj, ej⟩ := List.mem_iff_getElem.mp hu
      obtain ⟨us', e1, r⟩ := l2 j _ (List.getElem?_eq_getElem (by omega))
      rw [List.getElem?_eq_getElem hj, ej] at e1
      cases e1
      have := hm _ (List.getElem_mem (l := xss) (n := j) (by omega))
      have := r.length
      omega
    · refine wpAny_pure (fin _ H ts (I.turnedL (t' := s.toks) (ch := z :: TI :: TO :: is) (fun c o n q => kp c o (fun e => n (by rw [e]; simp)) (fun e => n (by simp [e])) q) hf) ⟨sm, h0S, hS, by omega, hg⟩)
  | succ n ih =>
    intro i s H ts hk hi I hf Z sm hS ht hg fin
    have hlt : i < m := by omega
    obtain ⟨uss, l1, l2, l3, l4⟩ := vals_all I lx (fun j a xs e1 e2 => sq_same sm (qs j a xs e1 e2))
    obtain ⟨row, col, rv⟩ := col_of l1 l2 hm hlt
    have rl := col.len
    refine codeAny_builtin F.entry_extend_loop ?_
    rw [Around.under_plainId F.plain_extend_loop _]
    show wpAny _ A.in1 (pyNext (.ref z) >>= _) _ _ s
    refine wpAny_bind (next_ D Z l3 la (by omega) col hne (by omega) fun h' Z' hT kp => ?_)
    have cl : (colV xss i).length = xss.length := by unfold colV; rw [List.length_map]
    have new : ObjOk X.prog X.w (upd H s.heap.objs.size (.tup (colV xss i))) h' s.heap.objs.size (.tup (colV xss i)) := ⟨by omega, row, rv, ⟨_, hT, rfl, _, rfl⟩⟩
    have I1 := I.turnedNew (t' := s.toks) (ch := z :: TI :: TO :: is) (fun c o n q => kp c o (fun e => n (by rw [e]; simp)) (fun e => n (by rw [e]; simp)) (fun e => n (by simp [e])) q) hf (Nat.le_refl _) new
    have hT0 : H s.heap.objs.size = none := I.hok.fresh (Nat.le_refl _)
    have neS : S ≠ s.heap.objs.size := ne_of_none hS hT0
    have hS1 : upd H s.heap.objs.size (.tup (colV xss i)) S = some (.lst (ts.map V.ref)) := by
      rw [upd_ne neS]
      exact hS
    obtain ⟨_, its, n', ri, eS⟩ := I1.hok S _ hS1
    have il := ri.length
    rw [List.length_map] at il
    show wpAny _ A.in1 (updateSeq S (·.push (.ref s.heap.objs.size)) >>= _) _ _ _
    refine wpAny_bind (wpAny_updateSeq eS rfl (wpAny_pure ?_) (by rw [List.size_toArray]; omega) (by show (its.toArray.push _).size ≤ _; rw [Array.size_push, List.size_toArray]; omega))
    have oth : ∀ c o, c ≠ S → h'.get? c = some o → (h'.update S (Obj.mapSeq (·.push (.ref s.heap.objs.size)))).get? c = some o := fun c o n e => (Heap.get?_update_other _ _ (Ne.symm n)).trans e
    have eS2 := Heap.get?_update_self (Obj.mapSeq (·.push (Value.ref s.heap.objs.size))) eS rfl
    have I2 := I1.write (x := S) (e := S) (o := .lst ((ts ++ [s.heap.objs.size]).map V.ref)) (t' := s.toks) (by rw [hS1]; trivial) (.inl rfl) (fun c o n e => oth c o n e) ⟨_, eS2⟩ ⟨by rw [List.length_map, List.length_append, List.length_singleton]; omega, its ++ [.ref s.heap.objs.size], n' + 1, by rw [List.map_append]; exact ri.append (.cons rfl .nil), by rw [eS2]; simp [Obj.mapSeq]⟩
    have lti : ∀ c ∈ is, c < s.heap.objs.size := fun c hc => by
      obtain ⟨j, hj, e⟩ := List.mem_iff_getElem.mp hc
      have := itr_lt (Z.it j is[j] (as[j]'(by omega)) (Nat.zero_le _) hj (List.getElem?_eq_getElem hj) (List.getElem?_eq_getElem (by omega)))
      rwa [e] at this
    refine ⟨plainId_quiet F.plain_extend_loop _, ih (i + 1) _ _ (ts ++ [s.heap.objs.size]) (by omega) (by omega) I2 (fun c hc => ?_) ?_ ?_ upd_same (by rw [List.length_append, ht]; rfl) ?_ fin⟩
    · have f := hf c hc
      have q : c = z ∨ c = TI ∨ c = TO ∨ c ∈ is := by simpa using hc
      have lt : c ≠ s.heap.objs.size := by
        rcases q with q | q | q | q
        · rw [q]; exact Nat.ne_of_lt Z.lz
        · rw [q]; exact Nat.ne_of_lt (Heap.lt_size Z.ti)
        · rw [q]; obtain ⟨_, e, _⟩ := Z.to; exact Nat.ne_of_lt (Heap.lt_size e)
        · exact Nat.ne_of_lt (lti c q)
      have nc : c ≠ S := by
        rcases q with q | q | q | q
        · rw [q]; exact nS.1.symm
        · rw [q]; exact nS.2.1.symm
        · rw [q]; exact nS.2.2.1.symm
        · exact fun e => nS.2.2.2 (by rw [← e]; exact q)
      refine ⟨?_, f.2⟩
      rw [upd_ne nc, upd_ne lt]
      exact f.1
    · obtain ⟨zp, t1, ⟨os, t2, t3⟩, t4⟩ := Z'
      refine ⟨?_, oth _ _ nS.2.1.symm t1, ⟨os, oth _ _ nS.2.2.1.symm t2, t3⟩, fun j it a l1 l2 e1 e2 => itr_keep (t4 j it a l1 l2 e1 e2) fun o e => oth _ o (fun q => nS.2.2.2 (by rw [← q]; exact List.mem_of_getElem? e1)) e⟩
      rcases zp with ⟨q, _⟩ | ⟨T, f, o, q1, q2, q3⟩
      · omega
      · by_cases eT : T = S
        · exact .inr ⟨T, f, _, oth _ _ nS.1.symm q1, by rw [eT]; exact eS2, q3⟩
        · exact .inr ⟨T, f, o, oth _ _ nS.1.symm q1, oth _ _ eT q2, q3⟩
    · intro c o e
      rw [upd_ne (ne_of_none e h0S), upd_ne (ne_of_none (sm _ _ e) hT0)]
      exact sm _ _ e
    · intro j t hj
      by_cases hji : j < ts.length
      · rw [List.getElem?_append_left hji] at hj
        have q := hg j t hj
        rw [upd_ne (ne_of q hS (by intro z; cases z)), upd_ne (ne_of_none q hT0)]
        exact q
      · have ej : j = i := by
          have := (List.getElem?_eq_some_iff.mp hj).1
          rw [List.length_append, List.length_singleton] at this
          omega
        subst ej
        rw [List.getElem?_append_right (by omega), ht, Nat.sub_self] at hj
        cases hj
        rw [upd_ne neS.symm]
        exact upd_same
def tLZn (K : PySem.W.Frag) (te : TE) : TE := fun σ H Q => te σ H fun x H1 => ∃ (p : Addr) (as : List Addr) (k : Kd) (xss : List (List V)) (m : Nat), x = .ref p ∧ (SqT K H1 p (as.map V.ref) ∨ SqL K H1 p (as.map V.ref)) ∧ as ≠ [] ∧ SqsV k K H1 as xss ∧ xss.length = as.length ∧ (∀ xs ∈ xss, xs.length = m) ∧ m < sizeLine ∧ as.length ≤ sizeLine ∧ ∀ S ts H', Zipped H1 H' S ts xss m → Q (.ref S) H'
theorem vals_refs : ∀ {as : List Addr} {us : List Value}, Vals (as.map V.ref) us → us = as.map Value.ref
  | [], _, .nil => rfl
  | a :: as, _, .cons r rr => by
    cases r
    rw [vals_refs rr]
    rfl
theorem mem_isF {n0 n c : Nat} (h : c ∈ isF n0 n) : n0 ≤ c ∧ c < n0 + n := by
  obtain ⟨j, hj, rfl⟩ := List.mem_map.mp h
  have := List.mem_range.mp hj
  omega
theorem nd_isF {n0 n : Nat} : (isF n0 n).Nodup := by
  unfold isF
  rw [List.nodup_iff_pairwise_ne, List.pairwise_map]
  exact (List.nodup_range (n := n)).imp fun {a b} h e => h (Nat.add_left_cancel e)
theorem pe_LZn {e : Expr} {te : TE} {p p2 pos pos2 sp : Pos} (hc : X.calm = true) (hg : Gl X "list") (hm : X.mg "list" = none) (hg2 : Gl X "zip") (hm2 : X.mg "zip" = none) (he : PE X e te)
    (hs : starEach [.Starred e sp] X.env = [(true, eval e X.env)] := by rfl)
    (hs2 : starEach [.Call (.Name "zip" p2) [.Starred e sp] [] pos2] X.env = (false, eval (.Call (.Name "zip" p2) [.Starred e sp] [] pos2) X.env) :: starEach [] X.env := by rfl) :
    PE X (.Call (.Name "list" p) [.Call (.Name "zip" p2) [.Starred e sp] [] pos2] [] pos) (tLZn X.K te) := by
  refine ⟨fun pn s σ H Q I h => ?_⟩
  refine Call_ (ld_blt I hg hm boot_list (PyProof.Rows.callWith_type1 (args_cons (Call_ (ld_blt I hg2 hm2 boot_zip (callWith_SType (thn (he.run pn s σ H _ I h) fun v s0 ⟨x, H1, I0, rx, q1⟩ => ?_) hs))) hs2) hs2 rfl))
  obtain ⟨pp, as, k, xss, m, ex, hp, hne, qs, lx, hm', hn, ha, q⟩ := q1
  subst ex
  obtain rfl : v = Value.ref pp := rx
  refine StX.star_any I0 hp fun us s1 I1 rv => ?_
  obtain rfl := vals_refs rv
  obtain ⟨uss, l1, l2, l3, l4⟩ := vals_all I1 lx qs
  refine call_zip_n k l3 (by omega) ha fun h' hz hTI hTO hit kp hsz => args_nil ?_
  have I2 : L2.Inv X pn σ H1 { s1 with heap := h' } := I1.kept (t' := s1.toks) kp
  have D : Apart (s1.heap.objs.size + as.length + 2) (s1.heap.objs.size + as.length) (s1.heap.objs.size + as.length + 1) (isF s1.heap.objs.size as.length) as := by
    refine ⟨nd_isF, fun m => ?_, fun m => ?_, fun m => ?_, Nat.ne_of_lt (Nat.lt_add_of_pos_right (by decide)), Nat.ne_of_lt (Nat.lt_succ_self _), Nat.ne_of_lt (Nat.lt_succ_self _), fun a ha m => ?_, fun a ha => Nat.ne_of_lt ?_, fun a ha => Nat.ne_of_lt ?_⟩
    · have := (mem_isF m).2
      omega
    · have := (mem_isF m).2
      omega
    · have := (mem_isF m).2
      omega
    · exact Nat.lt_irrefl _ (Nat.lt_of_lt_of_le (l4 a ha) (mem_isF m).1)
    · exact Nat.lt_of_lt_of_le (l4 a ha) (by omega)
    · exact Nat.lt_of_lt_of_le (l4 a ha) (by omega)
  have hh : X.A.in1.in1.handled = none := I1.ok.hd hc
  have hni : isF s1.heap.objs.size as.length ≠ [] := fun e => hne (by
    have := congrArg List.length e
    rw [isF_len] at this
    exact List.eq_nil_of_length_eq_zero this)
  have lis : as.length = (isF s1.heap.objs.size as.length).length := isF_len.symm
  have fp : ∀ c ∈ (s1.heap.objs.size + as.length + 2) :: (s1.heap.objs.size + as.length) :: (s1.heap.objs.size + as.length + 1) :: isF s1.heap.objs.size as.length, FpOk X pn H1 c := fun c hcm => by
    have le : s1.heap.objs.size ≤ c := by
      have e' : c = s1.heap.objs.size + as.length + 2 ∨ c = s1.heap.objs.size + as.length ∨ c = s1.heap.objs.size + as.length + 1 ∨ c ∈ isF s1.heap.objs.size as.length := by simpa using hcm
      rcases e' with q | q | q | q
      · rw [q]
        exact Nat.le_trans (Nat.le_add_right _ _) (Nat.le_add_right _ _)
      · rw [q]
        exact Nat.le_add_right _ _
      · rw [q]
        exact Nat.le_trans (Nat.le_add_right _ _) (Nat.le_add_right _ _)
      · exact (mem_isF q).1
    exact I1.fpOk le (I1.hok.fresh le)
  have lto : (List.replicate as.length Value.none).length = (isF s1.heap.objs.size as.length).length := by rw [List.length_replicate, isF_len]
  have lti : ∀ c ∈ isF s1.heap.objs.size as.length, c < h'.objs.size := fun c hc => by
    refine Nat.lt_of_lt_of_le (mem_isF hc).2 ?_
    rw [hsz]
    exact Nat.le_add_right _ _
  have hit2 : Its k h' (isF s1.heap.objs.size as.length) as 0 (isF s1.heap.objs.size as.length).length 0 := by
    rw [isF_len]
    exact hit
  clear hit
  generalize s1.heap.objs.size + as.length + 2 = z at *
  generalize s1.heap.objs.size + as.length + 1 = TO at *
  generalize s1.heap.objs.size + as.length = TI at *
  generalize isF s1.heap.objs.size as.length = is at *
  have Z0 : Zst k h' z TI TO is as 0 := ⟨.inl ⟨rfl, hz⟩, hTI, ⟨_, hTO, lto⟩, hit2⟩
  refine callType_codes (Q₁ := fun obj t => obj = .ref h'.objs.size ∧ t = { s1 with heap := h'.push { cls := .type "list", data := .seq #[] } }) F.called_list (F.typeCall_list_1 _) F.entry_list_init (code_list_new _ ⟨rfl, rfl⟩) fun obj t ht => ?_
  obtain ⟨rfl, rfl⟩ := ht
  have eS : (h'.push { cls := .type "list", data := .seq #[] }).get? h'.objs.size = some { cls := .type "list", data := .seq #[] } := Heap.get?_push_size _ rfl
  have up : ∀ c o, h'.get? c = some o → (h'.push { cls := .type "list", data := .seq #[] }).get? c = some o := fun c o e => Heap.get?_push_of_some _ e
  refine ⟨⟨_, eS, rfl⟩, F.args_list_init_2 _ _, ?_⟩
  generalize h'.push { cls := .type "list", data := .seq #[] } = g at eS up ⊢
  have nS : h'.objs.size ≠ z ∧ h'.objs.size ≠ TI ∧ h'.objs.size ≠ TO ∧ h'.objs.size ∉ is := ⟨Nat.ne_of_gt Z0.lz, Nat.ne_of_gt (Heap.lt_size hTI), Nat.ne_of_gt (Heap.lt_size hTO), fun m => Nat.lt_irrefl _ (lti _ m)⟩
  have h0S : H1 h'.objs.size = none := I2.hok.fresh (Nat.le_refl _)
  generalize eN : h'.objs.size = S at eS nS h0S ⊢
  show wpAny _ _ (do let old ← Builtin.List.listItems (.ref S); Builtin.List.listUpdate (.ref S) (fun _ => #[]); letGo old.toList.reverse; Builtin.List.listExtendWith (.ref S) (.ref z) .none) _ _ _
  unfold Builtin.List.listItems
  refine wpAny_bind (wpAny_bind (wpAny_seqItems eS rfl (wpAny_pure ?_)))
  show wpAny _ _ (updateSeq S (fun _ => #[]) >>= fun _ => letGo (#[] : Array Value).toList.reverse >>= fun _ => Builtin.List.listExtendWith (.ref S) (.ref z) .none) _ _ _
  refine wpAny_bind (wpAny_updateSeq eS rfl ?_)
  have eS2 := Heap.get?_update_self (Obj.mapSeq (fun _ => (#[] : Array Value))) eS rfl
  have o2 : ∀ c o, c ≠ S → g.get? c = some o → (g.update S (Obj.mapSeq (fun _ => (#[] : Array Value)))).get? c = some o := fun c o n e => (Heap.get?_update_other _ _ (Ne.symm n)).trans e
  refine wpAny_bind (wpAny_letGo ?_)
  generalize g.update S (Obj.mapSeq (fun _ => (#[] : Array Value))) = g2 at eS2 o2 ⊢
  have hz2 : IsZip g2 z TI TO .none := o2 _ _ nS.1.symm (up _ _ hz)
  have ty2 : Shared.TypeIs { s1 with heap := g2 } (.ref z) "zip" := ⟨_, hz2, rfl⟩
  unfold Builtin.List.listExtendWith
  refine wpAny_bind (wpAny_typeOf ty2 ?_)
  have c1 : Builtin.List.listSameRef (.ref S) (.ref z) = false := by simp [Builtin.List.listSameRef, nS.1]
  have c2 : (Value.type "zip" == Value.type "list") = false := by decide
  have c3 : (Value.type "zip" == Value.type "tuple") = false := by decide
  simp only [c1, c2, c3, Bool.or_false, Bool.false_eq_true, if_false]
  refine wpAny_bind (wpAny_pyIter_zip hz2 ?_)
  refine wpAny_bind (wpAny_holding ?_)
  unfold Builtin.List.listLengthHint
  refine wpAny_bind (wpAny_specialOf ty2 Lz.zip_no_len ?_)
  show wpAny _ _ (specialOf (Value.ref z) (Str.ofString "__length_hint__") >>= _) _ _ _
  refine wpAny_bind (wpAny_specialOf ty2 Lz.zip_no_hint (wpAny_pure ?_))
  show wpAny _ _ (rule "list.extend.makes-room" >>= fun _ => Builtin.List.listTouch (.ref S) >>= fun _ => again (.builtin "list.extend.loop" ⟨[.ref S, .ref z, .none], []⟩)) _ _ _
  refine wpAny_bind (wpAny_rule (wpAny_bind ?_))
  show wpAny _ _ (updateSeq S (·.push .none) >>= fun _ => updateSeq S (·.pop)) _ _ _
  refine wpAny_bind (wpAny_updateSeq eS2 rfl ?_)
  have eS3 := Heap.get?_update_self (Obj.mapSeq (·.push Value.none)) eS2 rfl
  refine wpAny_updateSeq (hz := by seq_fits) eS3 rfl ?_
  have eS4 := Heap.get?_update_self (Obj.mapSeq (·.pop)) eS3 rfl
  have o4 : ∀ c o, c ≠ S → g2.get? c = some o → ((g2.update S (Obj.mapSeq (·.push Value.none))).update S (Obj.mapSeq (·.pop))).get? c = some o := fun c o n e => (Heap.get?_update_other _ _ (Ne.symm n)).trans ((Heap.get?_update_other _ _ (Ne.symm n)).trans e)
  refine wpAny_pure ⟨plainId_quiet F.plain_extend_loop _, ?_⟩
  generalize (g2.update S (Obj.mapSeq (·.push Value.none))).update S (Obj.mapSeq (·.pop)) = g4 at eS4 o4 ⊢
  have kp4 : ∀ c o, h'.get? c = some o → g4.get? c = some o := fun c o e => by
    have n : c ≠ S := by
      rw [← eN]
      exact Nat.ne_of_lt (Heap.lt_size e)
    exact o4 c o n (o2 c o n (up c o e))
  have I4 := I2.laid (t' := s1.toks) (o := .lst (([] : List Addr).map V.ref)) kp4 (Nat.le_of_eq eN) ⟨by simp, [], _, .nil, eS4⟩
  refine loop hh D .none lis lx hm' hn ha hni qs h0S nS m 0 _ _ [] (by omega) (Nat.zero_le _) I4 (fun c hcm => ?_) ⟨.inl ⟨rfl, kp4 _ _ hz⟩, kp4 _ _ hTI, ⟨_, kp4 _ _ hTO, lto⟩, fun j it a l1 l2 e1 e2 => itr_keep (Z0.it j it a l1 l2 e1 e2) fun o e => kp4 _ _ e⟩ (fun c o e => by rw [upd_ne (ne_of_none e h0S)]; exact e) upd_same rfl (fun j t hj => by simp at hj) ?_
  · have f := fp c hcm
    refine ⟨?_, f.2⟩
    have n : c ≠ S := by
      have e' : c = z ∨ c = TI ∨ c = TO ∨ c ∈ is := by simpa using hcm
      rcases e' with q | q | q | q
      · rw [q]; exact nS.1.symm
      · rw [q]; exact nS.2.1.symm
      · rw [q]; exact nS.2.2.1.symm
      · exact fun e => nS.2.2.2 (by rw [← e]; exact q)
    rw [upd_ne n]
    exact f.1
  · intro s' H' ts' I' Z'
    exact ⟨rfl, ⟨.ref S, H', I', rfl, q S ts' H' Z'⟩⟩
end
end Zn
set_option linter.all false
/-! enumerate(x), x a list or a tuple -/
namespace En
open PySem PySem.Spec PyProof.Rows L2 Zm
set_option maxHeartbeats 1000000 in
theorem meets_new {v : Value} {o : Obj} {H : Heap → Prop} (B : Begins v o H) :
    Meets (Builtin.«enumerate.__new__» ⟨[.type "enumerate", v], []⟩) (fun _ R s => H s.heap ∧
      R (.ok (.ret (.ref (s.heap.push o).objs.size))) { s with heap := (s.heap.push o).push { cls := .type "enumerate", data := .fields #[.none, .bool false, .ref s.heap.objs.size, rawInt 0, .none, .none] } }) :=
  .of_wp fun prog w A R s h => by
    obtain ⟨hp, g, d, tk, os⟩ := s; obtain ⟨h1, h⟩ := h
    have hsub := sub_enumerate
    have q1 : ∀ {A' : Around} {E : Value → Shared → Prop} {Q : Value → Shared → Prop}, Q (.ref hp.objs.size) ⟨hp.push o, g, d, tk, os⟩ → wpAny (model prog w) A' (pyIter v) Q E ⟨hp, g, d, tk, os⟩ :=
      fun q => B.iter prog w _ _ ⟨hp, g, d, tk, os⟩ _ h1 q
    wp_walk using q1
    refine wpAny_stack_any fun st => wpAny_pure ?_
    split
    · rename_i c _ _ _ _ _
      cases (c == Value.type "enumerate")
      · wp_walk using q1
        exact ⟨_, rfl, h⟩
      · wp_walk using q1
        exact ⟨_, rfl, h⟩
    · wp_walk using q1
      exact ⟨_, rfl, h⟩
section
variable {prog : Program} {w : World} {A : Around} {E : Value → Shared → Prop} {s : Shared}
theorem begins {v : Value} {o : Obj} {H : Heap → Prop} {Q : Value → Shared → Prop} (B : Begins v o H) (h1 : H s.heap)
    (h : ∀ h', IsEnum h' (s.heap.objs.size + 1) s.heap.objs.size 0 .none → h'.get? s.heap.objs.size = some o → h'.objs.size = s.heap.objs.size + 2 →
      (∀ b o, s.heap.get? b = some o → h'.get? b = some o) → Q (.ref (s.heap.objs.size + 1)) { s with heap := h' }) :
    wpAny (model prog w) A (call (.type "enumerate") [v]) Q E s := by
  refine callType_new F.called_enumerate (by decide) (F.typeCall_enumerate_1 _) (F.newCall_enumerate_1 _) (fun obj => F.args_object_init_2 obj _) F.entry_enumerate_new
    (meets_new B) ⟨h1, ?_⟩
  have hz : (s.heap.push o).objs.size = s.heap.objs.size + 1 := Heap.size_push ..
  show _ ∧ _
  rw [hz]
  have he : IsEnum ((s.heap.push o).push { cls := .type "enumerate", data := .fields #[.none, .bool false, .ref s.heap.objs.size, rawInt 0, .none, .none] }) (s.heap.objs.size + 1) s.heap.objs.size 0 .none := by
    have := Heap.get?_push_size (s.heap.push o) (o := { cls := .type "enumerate", data := .fields #[.none, .bool false, .ref s.heap.objs.size, rawInt 0, .none, .none] }) rfl
    rw [hz] at this; exact this
  refine ⟨⟨_, he, rfl⟩, h _ he (Heap.get?_push_of_some _ (Heap.get?_push_size _ B.free)) (by rw [Heap.size_push, hz]) fun b o x => Heap.get?_push_of_some _ (Heap.get?_push_of_some _ x)⟩
end
def ItE (k : Kd) (K : PySem.W.Frag) (a : Addr) : It where
  go i H := ∃ (xs : List V) (x : V), Sq k K H a xs ∧ xs[i]? = some x
  yld i H v H' := ∃ T x, v = .ref T ∧ H T = none ∧ H' = upd H T (.tup [.int (i : Nat), x]) ∧ ∀ xs, Sq k K H a xs → xs[i]? = some x
  stop i H := ∃ xs : List V, Sq k K H a xs ∧ xs.length = i
theorem trn {P : Program} {w : World} {K : PySem.W.Frag} {k : Kd} {es : List Expr} {kk : Nat} {tp : Pos} {a e it : Addr} (ne : e ≠ it) (na : a ≠ it) (nea : e ≠ a) :
    Turn P w K (.Tuple es kk tp) (ItE k K a) [e, it] e (fun i h => (∃ old, IsEnum h e it (0 + ((i : Nat) : Int)) old) ∧ Itr k h it a i) where
  mem := by simp
  obj := fun i h st c hc => by
    obtain ⟨⟨old, he⟩, h1⟩ := st
    have e' : c = e ∨ c = it := by simpa using hc
    rcases e' with z | z
    · rw [z]; exact ⟨_, he, fun v q => nomatch q⟩
    · rw [z]; exact itr_obj h1
  keep := fun i h h' st kp => by
    obtain ⟨⟨old, he⟩, h1⟩ := st
    exact ⟨⟨old, kp e (by simp) _ he⟩, itr_keep h1 fun o q => kp it (by simp) o q⟩
  item := by
    intro X eP ew eK calm i pn s σ H E I hf st gg
    subst eP ew eK
    obtain ⟨hE, h1⟩ := st
    obtain ⟨xs, x, qx, hx⟩ := gg
    obtain ⟨us, rv, p1, _⟩ := at_ I qx
    have hh : X.A.in1.handled = none := I.ok.hd calm
    have l1 : i < us.toArray.size := by
      have := (List.getElem?_eq_some_iff.mp hx).1
      rw [List.size_toArray, ← rv.length]
      exact this
    refine (GoesN.enumFrom 0 (drw k hh na us.toArray) e ne (by simp [ne, nea]) (by simp)).goes i s (fun u s2 => ∃ x H', Inv X pn σ H' s2 ∧ RelV x u ∧ (ItE k X.K a).yld i H x H' ∧ _ ∧ ∀ c ∈ _, H' c = none) E l1 ⟨hE, h1, p1⟩ fun v h' tk Y st' kp _ => ?_
    obtain ⟨T, t, u, rfl, le, hu, hT⟩ := Y
    obtain ⟨hE', h1', _⟩ := st'
    obtain ⟨w1, e1, r1⟩ := rv.get hx
    have c1 : w1 = u := by
      have z1 : us[i]? = some u := by simpa using hu
      rw [e1] at z1
      exact Option.some.inj z1
    subst c1
    have fresh : H T = none := I.hok.fresh le
    have e0 : (0 : Int) + ((i : Nat) : Int) = ((i : Nat) : Int) := by omega
    rw [e0] at hT
    have new : ObjOk X.prog X.w (upd H T (.tup [.int (i : Nat), x])) h' T (.tup [.int (i : Nat), x]) := ⟨by show 2 ≤ sizeLine; decide, [.int (i : Nat) t, w1], .cons ⟨_, rfl⟩ (.cons r1 .nil), hT⟩
    have I1 := I.turnedNew (t' := tk) (ch := [e, it]) (fun c o n q => kp c o n q) hf le new
    refine ⟨.ref T, _, I1, rfl, ⟨T, x, rfl, fresh, rfl, fun l hl => by rw [inj I hl qx]; exact hx⟩, ⟨hE', h1'⟩, fun c hc => ?_⟩
    have lt : c < s.heap.objs.size := by
      have e' : c = e ∨ c = it := by simpa using hc
      rcases e' with z | z
      · obtain ⟨_, he⟩ := hE
        rw [z]; exact Heap.lt_size he
      · obtain ⟨_, q, _⟩ := itr_obj h1
        rw [z]; exact Heap.lt_size q
    rw [upd_ne (Nat.ne_of_lt (Nat.lt_of_lt_of_le lt le))]
    exact (hf c hc).1
  done := by
    intro X eP ew eK calm i pn s σ H E I hf st gg
    subst eP ew eK
    obtain ⟨hE, h1⟩ := st
    obtain ⟨xs, qx, hx⟩ := gg
    obtain ⟨us, rv, p1, _⟩ := at_ I qx
    have hh : X.A.in1.handled = none := I.ok.hd calm
    have e0 : i = us.toArray.size := by
      have l1 := rv.length
      simp
      omega
    subst e0
    exact (GoesN.enumFrom (elts := es) (x1 := kk) (pos := tp) 0 (drw k hh na us.toArray) e ne (by simp [ne, nea]) (by simp)).stops s (fun s1 => Inv X pn σ H s1) E ⟨hE, h1, p1⟩ fun h' tk kp _ => I.turnedL (t' := tk) (ch := [e, it]) (fun c o n q => kp c o n q) hf
  self := fun A i s Q E st h => let ⟨⟨_, he⟩, _⟩ := st; wpAny_pyIter_enum he h
def iEnumK (K : PySem.W.Frag) (ta : TA) : TI := fun σ H R => ta σ H fun vs H1 => ∃ k a xs, vs = [.ref a] ∧ Sq k K H1 a xs ∧ R (ItE k K a) H1
theorem pi_enumK {X : Cx} {e : Expr} {ta : TA} {p pos tp : Pos} {es : List Expr} {kk : Nat} (hg : Gl X "enumerate") (hm : X.mg "enumerate" = none) (ha : PA X [e] ta) (hs : starEach [e] X.env = [(false, eval e X.env)] := by rfl) :
    PI X (.Tuple es kk tp) (.Call (.Name "enumerate" p) [e] [] pos) (iEnumK X.K ta) := by
  refine ⟨fun pn s σ H R I h => ?_⟩
  refine Call_ (ld_blt I hg hm boot_enumerate (PyProof.Rows.callWith_type1 (thn (ha.run pos pn s σ H _ I h) fun us s1 ⟨vs, H1, I1, r1, q1⟩ => ?_) hs rfl))
  obtain ⟨k, a, xs, ex, qx, q⟩ := q1
  subst ex
  cases r1 with
  | cons r rr =>
    cases rr
    cases r
    obtain ⟨us, rv, p1, la⟩ := at_ I1 qx
    obtain ⟨o1, B1, f1⟩ := bgn k a us.toArray
    refine begins B1 p1 fun h' he g1 hsz kp => wpAny_pyIter_enum he ?_
    have ne1 : a ≠ s1.heap.objs.size := Nat.ne_of_lt la
    have ne2 : s1.heap.objs.size + 1 ≠ a := Nat.ne_of_gt (Nat.lt_succ_of_lt la)
    refine ⟨_, _, _, _, H1, rfl, I1.kept (t' := s1.toks) kp, trn (k := k) (Nat.succ_ne_self _) ne1 ne2, ⟨⟨.none, he⟩, f1 _ _ g1⟩, fun c hc => ?_, q⟩
    have e' : c = s1.heap.objs.size + 1 ∨ c = s1.heap.objs.size := by simpa using hc
    have le : s1.heap.objs.size ≤ c := by
      rcases e' with z | z
      · rw [z]; exact Nat.le_add_right _ _
      · rw [z]; exact Nat.le_refl _
    exact I1.fpOk le (I1.hok.fresh le)
theorem walkE {k : Kd} {K : PySem.W.Frag} {a : Addr} {xs : List V} : Walk (ItE k K a) xs.length (fun H => Sq k K H a xs) (YPair (fun i => some (.int (i : Nat))) (fun i => xs[i]?)) := by
  refine ⟨fun i _ hi q => ⟨xs, xs[i], q, by simp [hi]⟩, fun _ q => ⟨xs, q, rfl⟩, fun i H v H' _ q y => ?_⟩
  obtain ⟨T, x, h1, h2, h3, h4⟩ := y
  exact ⟨T, .int (i : Nat), x, h1, h2, h3, rfl, h4 xs q⟩
/-- a subscript of a list or a tuple -/
def rIxK (K : PySem.W.Frag) : R2 := fun x y H Q => ∃ p k xs i v, x = .ref p ∧ y = .int i ∧ Sq k K H p xs ∧ atI xs i = some v ∧ Q v H
theorem ix_kd {X : Cx} : IxR X (rIxK X.K) := by
  intro value slice pins s σ H x y v u Q I rx ry h hs
  obtain ⟨p, k, xs, i, z, rfl, rfl, hq, he, q⟩ := h
  cases k with
  | l => exact ix_list value slice pins s σ H _ _ v u Q I rx ry ⟨p, xs, i, z, rfl, rfl, hq, he, q⟩ hs
  | t => exact ix_tup value slice pins s σ H _ _ v u Q I rx ry ⟨p, xs, i, z, rfl, rfl, hq, he, q⟩ hs
end En
set_option linter.all false
/-! numbers by which rows make a row: leads of their columns -/
namespace Lin
theorem dot_last : ∀ (n : Nat) (u v : Vc), dot u v (n + 1) = dot u v n + u n * v n
  | 0, u, v => by
    show u 0 * v 0 + 0 = 0 + u 0 * v 0
    omega
  | n + 1, u, v => by
    show u 0 * v 0 + dot (shf u) (shf v) (n + 1) = u 0 * v 0 + dot (shf u) (shf v) n + u (n + 1) * v (n + 1)
    rw [dot_last n (shf u) (shf v)]
    show u 0 * v 0 + (dot (shf u) (shf v) n + u (n + 1) * v (n + 1)) = _
    omega
theorem dot_ext : ∀ (n : Nat) {u v w x : Vc}, (∀ i, i < n → u i = v i) → (∀ i, i < n → w i = x i) → dot u w n = dot v x n
  | 0, _, _, _, _, _, _ => rfl
  | n + 1, u, v, w, x, h, k => by
    show u 0 * w 0 + dot (shf u) (shf w) n = v 0 * x 0 + dot (shf v) (shf x) n
    rw [h 0 (by omega), k 0 (by omega), dot_ext n (u := shf u) (v := shf v) (w := shf w) (x := shf x) (fun i hi => h (i + 1) (by omega)) (fun i hi => k (i + 1) (by omega))]
def col (fs : List (List Int)) (j : Nat) : Vc := fun i => vec (fs.getD i []) j
theorem shf_col {f : List Int} {fs : List (List Int)} {j : Nat} : shf (col (f :: fs) j) = col fs j := by
  funext i
  show vec ((f :: fs).getD (i + 1) []) j = vec (fs.getD i []) j
  simp
theorem lot_coef {p : Int} {fs : List (List Int)} {u : Vc} (h : Lot p (spn fs) u) : ∃ a : Vc, ∀ j, Cg p (u j) (dot a (col fs j) fs.length) := by
  induction h with
  | zero => exact ⟨fun _ => 0, fun j => by rw [dot_zeroL]; exact Cg.rfl'⟩
  | @add u v c _ r ih =>
    obtain ⟨a, ha⟩ := ih
    obtain ⟨f, hf, rfl⟩ := r
    obtain ⟨i, hi, rfl⟩ := List.mem_iff_getElem.mp hf
    refine ⟨fun k => a k + c * un i k, fun j => ?_⟩
    rw [dot_combL, dot_comm _ (un i), dot_un _ i _ hi]
    have e : col fs j i = vec fs[i] j := by
      show vec (fs.getD i []) j = _
      rw [List.getD_eq_getElem?_getD, List.getElem?_eq_getElem hi]
      rfl
    rw [e]
    exact (ha j).add Cg.rfl'
  | eqv _ e ih =>
    obtain ⟨a, ha⟩ := ih
    exact ⟨a, fun j => (e j).symm.trans (ha j)⟩
/-- place j of all of them -/
def colI (gs : List (List Int)) (j : Nat) : List Int := gs.map fun g => g.getD j 0
theorem vec_col {gs : List (List Int)} {j i : Nat} : vec (colI gs j) i = col gs j i := by
  show (gs.map fun g => g.getD j 0).getD i 0 = (gs.getD i []).getD j 0
  rw [List.getD_eq_getElem?_getD, List.getD_eq_getElem?_getD (l := gs), List.getElem?_map]
  cases gs[i]? with
  | none => rfl
  | some g => rfl
theorem col_app {fs : List (List Int)} {f : List Int} {j i : Nat} (h : i < fs.length) : col (fs ++ [f]) j i = col fs j i := by
  show vec ((fs ++ [f]).getD i []) j = vec (fs.getD i []) j
  rw [List.getD_eq_getElem?_getD, List.getD_eq_getElem?_getD, List.getElem?_append_left h]
theorem col_end {fs : List (List Int)} {f : List Int} {j : Nat} : col (fs ++ [f]) j fs.length = vec f j := by
  show vec ((fs ++ [f]).getD fs.length []) j = vec f j
  rw [List.getD_eq_getElem?_getD]
  simp
def cols (fs : List (List Int)) (f : List Int) (n : Nat) : List (List Int) := (List.range n).map (colI (fs ++ [f]))
theorem mem_cols {fs : List (List Int)} {f : List Int} {n : Nat} {v : Vc} (h : spn (cols fs f n) v) : ∃ j, j < n ∧ v = col (fs ++ [f]) j := by
  obtain ⟨g, hg, rfl⟩ := h
  obtain ⟨j, hj, rfl⟩ := List.mem_map.mp hg
  exact ⟨j, List.mem_range.mp hj, funext fun i => vec_col⟩
theorem share_yes {p : Int} {n : Nat} {fs : List (List Int)} {f : List Int} {L : List (Nat × List Int)} (pl : PL p (fs.length + 1) (cols fs f n) L) (nk : fs.length ∉ L.map (·.1)) {ns : Vc} (hv : ∀ i, i < fs.length → ns i = cu (fun x => x.2 fs.length) (vecs L) i) {j : Nat} (hj : j < n) :
    Cg p (vec f j) (dot ns (col fs j) fs.length) := by
  have lt : Lot p (rowsOf (vecs L)) (col (fs ++ [f]) j) := (pl.lot _).mpr (.of ⟨colI (fs ++ [f]) j, List.mem_map.mpr ⟨j, List.mem_range.mpr hj, rfl⟩, funext fun i => vec_col⟩)
  have z := (lot_left pl.leads pl.ndv).mp lt fs.length
  have hp : ∀ x ∈ vecs L, x.1 < fs.length + 1 := fun x hx => by
    obtain ⟨y, hy, rfl⟩ := mem_vecs.mp hx
    exact pl.plc y hy
  have hne : ∀ x ∈ vecs L, x.1 ≠ fs.length := fun x hx e => by
    obtain ⟨y, hy, rfl⟩ := mem_vecs.mp hx
    exact nk (List.mem_map.mpr ⟨y, hy, e⟩)
  have e1 : own (col (fs ++ [f]) j) (vecs L) fs.length = dot ns (col fs j) fs.length := by
    rw [← own_as, ← dot_cu (a := fun x => x.2 fs.length) hp, dot_last, cu_out hne, Int.mul_zero, Int.add_zero, dot_comm]
    exact dot_ext _ (fun i hi => (hv i hi).symm) (fun i hi => col_app hi)
  have z' : Cg p (vec f j - dot ns (col fs j) fs.length) 0 := by
    rw [← e1, ← col_end (fs := fs) (f := f) (j := j)]
    exact z
  have a := z'.add (Cg.rfl' (a := dot ns (col fs j) fs.length))
  rw [Int.sub_add_cancel, Int.zero_add] at a
  exact a
theorem share_no {p : Int} {n : Nat} {fs : List (List Int)} {f : List Int} {L : List (Nat × List Int)} (p1 : 1 < p) (pl : PL p (fs.length + 1) (cols fs f n) L) (k : fs.length ∈ L.map (·.1)) : ¬ Lot p (spn fs) (vec f) := by
  intro h
  obtain ⟨a, ha⟩ := lot_coef h
  obtain ⟨x, hx, ex⟩ := List.mem_map.mp k
  have mx : (x.1, vec x.2) ∈ vecs L := mem_vecs.mpr ⟨x, hx, rfl⟩
  have lx : Lot p (spn (cols fs f n)) (vec x.2) := (pl.lot _).mp (.of ⟨_, mx, rfl⟩)
  have z := dot_lotL (n := fs.length + 1) (v := fun i => if i < fs.length then a i else -1) lx fun v hv => by
    obtain ⟨j, hj, rfl⟩ := mem_cols hv
    rw [dot_last, dot_ext fs.length (u := col (fs ++ [f]) j) (v := col fs j) (w := fun i => if i < fs.length then a i else -1) (x := a) (fun i hi => col_app hi) (fun i hi => by simp [hi]), col_end, dot_comm]
    have b := (ha j).symm.sub (Cg.rfl' (a := vec f j))
    rw [Int.sub_self] at b
    have e : dot a (col fs j) fs.length + vec f j * (if fs.length < fs.length then a fs.length else -1) = dot a (col fs j) fs.length - vec f j := by
      rw [if_neg (by omega)]
      omega
    show Cg p (dot a (col fs j) fs.length + vec f j * (if fs.length < fs.length then a fs.length else -1)) 0
    rw [e]
    exact b
  rw [dot_last] at z
  have e0 : Cg p (dot (vec x.2) (fun i => if i < fs.length then a i else -1) fs.length) 0 := by
    rw [dot_ext fs.length (u := vec x.2) (v := fun i => if i < fs.length then vec x.2 i else 0) (w := fun i => if i < fs.length then a i else -1) (x := a) (fun i hi => by simp [hi]) (fun i hi => by simp [hi])]
    have c := dot_eqv (p := p) fs.length (u := fun i => if i < fs.length then vec x.2 i else 0) (v := fun _ => 0) (w := a) (x := a) (fun i => by
      by_cases hi : i < fs.length
      · dsimp only
        rw [if_pos hi]
        exact pl.ahead _ mx i (by rw [ex]; exact hi)
      · dsimp only
        rw [if_neg hi]
        exact Cg.rfl') Eqv.refl
    rw [dot_zeroL] at c
    exact c
  have e1 : Cg p (vec x.2 fs.length) 1 := by
    have s := pl.leads.self _ mx
    rw [← ex]
    exact s
  have c := e0.symm.add (e1.symm.mul (Cg.rfl' (a := (-1 : Int))))
  have z2 : Cg p (0 + 1 * -1) 0 := by
    refine c.trans ?_
    have e : (if fs.length < fs.length then a fs.length else -1) = (-1 : Int) := if_neg (Nat.lt_irrefl _)
    rw [e] at z
    exact z
  obtain ⟨d, hd⟩ := z2
  exact one_zero p1 ⟨-d, by grind⟩
theorem comb_dot {j : Nat} : ∀ {ns : List Int} {rs : List (List (Int × Int))}, ns.length = rs.length → combV (pairV (ns.zip rs)) j = dot (vec ns) (col (rs.map flatR) j) rs.length
  | [], [], _ => rfl
  | [], _ :: _, h => by simp at h
  | _ :: _, [], h => by simp at h
  | n :: ns, r :: rs, h => by
    show n * vec (flatR r) j + combV (pairV (ns.zip rs)) j = vec (n :: ns) 0 * col (flatR r :: rs.map flatR) j 0 + dot (shf (vec (n :: ns))) (shf (col (flatR r :: rs.map flatR) j)) rs.length
    have e : shf (vec (n :: ns)) = vec ns := funext fun i => vec_succ
    rw [comb_dot (by simpa using h), shf_col, e]
    rfl
end Lin
/-! things by a hold and a table: stands, that they are fair, how many free numbers they have -/
namespace Lin
abbrev RowP := List (Int × Int)
theorem vec_flatP : ∀ (r : RowP) (k : Nat), vec (flatR r) (2 * k) = (r.getD k (0, 0)).1 ∧ vec (flatR r) (2 * k + 1) = (r.getD k (0, 0)).2
  | [], _ => ⟨rfl, rfl⟩
  | _ :: _, 0 => ⟨rfl, rfl⟩
  | u :: r, k + 1 => by
    have ih := vec_flatP r k
    rw [flat_cons, show 2 * (k + 1) + 1 = 2 * k + 1 + 1 + 1 by omega, show 2 * (k + 1) = 2 * k + 1 + 1 by omega, vec_succ, vec_succ, vec_succ, vec_succ]
    exact ih
theorem sum_range (u v : Vc) : ∀ m : Nat, ((List.range m).map fun k => u k * v k).sum = dot u v m
  | 0 => rfl
  | m + 1 => by
    rw [List.range_succ, List.map_append, List.sum_append, sum_range u v m, dot_last]
    simp
theorem dot_dotM {a b : Vc} {M : Nat → Vc} {n : Nat} : ∀ N : Nat, dot (fun k => dot a (fun i => M i k) N) b n = dot a (fun i => dot (M i) b n) N
  | 0 => dot_zeroL n b
  | N + 1 => by
    have e : (fun k => dot a (fun i => M i k) (N + 1)) = fun k => dot a (fun i => M i k) N + a N * M N k := funext fun k => dot_last N a _
    rw [e, dot_combL, dot_dotM N, dot_last]
theorem dot_cgN {p : Int} : ∀ (n : Nat) {u v w x : Vc}, (∀ i, i < n → Cg p (u i) (v i)) → (∀ i, i < n → Cg p (w i) (x i)) → Cg p (dot u w n) (dot v x n)
  | 0, _, _, _, _, _, _ => Cg.rfl'
  | n + 1, u, v, w, x, h, k => by
    rw [dot_last, dot_last]
    exact (dot_cgN n (fun i hi => h i (by omega)) fun i hi => k i (by omega)).add ((h n (by omega)).mul (k n (by omega)))
/-- a table that is its own mirror -/
def Sy (gs : List (List Int)) : Prop := ∀ i j, col gs j i = col gs i j
/-- what is told at post j -/
def toldV (gs : List (List Int)) (a : Vc) (m : Nat) : Vc := fun j => dot a (col gs j) m
/-- the stand by a hold, a table and held numbers -/
def stP (p : Int) (hs : List Int) (gs : List (List Int)) (ns : List Int) : RowP :=
  (List.range hs.length).map fun j => if vec hs j = 0 then (vec ns j, toldV gs (vec ns) hs.length j % p) else ((0 - toldV gs (vec ns) hs.length j % p) % p, vec ns j)
def unitL (m k : Nat) : List Int := (List.range m).map fun j => if j = k then 1 else 0
def unitsP (p : Int) (hs : List Int) (gs : List (List Int)) : List RowP := (List.range hs.length).map fun k => stP p hs gs (unitL hs.length k)
theorem st_len {p : Int} {hs : List Int} {gs : List (List Int)} {ns : List Int} : (stP p hs gs ns).length = hs.length := by
  unfold stP
  rw [List.length_map, List.length_range]
theorem st_get {p : Int} {hs : List Int} {gs : List (List Int)} {ns : List Int} {j : Nat} (h : j < hs.length) : (stP p hs gs ns)[j]? = some (if vec hs j = 0 then (vec ns j, toldV gs (vec ns) hs.length j % p) else ((0 - toldV gs (vec ns) hs.length j % p) % p, vec ns j)) := by
  unfold stP
  rw [List.getElem?_map, List.getElem?_range h]
  rfl
def InP (p : Int) (r : RowP) : Prop := ∀ u ∈ r, (0 ≤ u.1 ∧ u.1 < p) ∧ 0 ≤ u.2 ∧ u.2 < p
theorem st_in {p : Int} {hs : List Int} {gs : List (List Int)} {ns : List Int} (p0 : 0 < p) (rg : Rg p ns) : InP p (stP p hs gs ns) := fun u hu => by
  obtain ⟨j, _, rfl⟩ := List.mem_map.mp hu
  have a := rg.vec p0 j
  have b : ∀ x : Int, 0 ≤ x % p ∧ x % p < p := fun x => ⟨Int.emod_nonneg _ (by omega), Int.emod_lt_of_pos _ p0⟩
  split
  · exact ⟨a, b _⟩
  · exact ⟨b _, a⟩
theorem meets_range {p : Int} {F : Int × Int → Int × Int → Int} {G : Nat → Int} {f g : Nat → Int × Int} : ∀ m : Nat, (∀ j, j < m → Cg p (F (f j) (g j)) (G j)) → Cg p (List.zipWith F ((List.range m).map f) ((List.range m).map g)).sum ((List.range m).map G).sum
  | 0, _ => Cg.rfl'
  | m + 1, h => by
    rw [List.range_succ, List.map_append, List.map_append, List.map_append, List.zipWith_append (by simp), List.sum_append, List.sum_append]
    refine (meets_range m fun j hj => h j (by omega)).add ?_
    have a := h m (by omega)
    simpa using a
theorem sum_sub (u v a b : Vc) : ∀ m : Nat, ((List.range m).map fun k => u k * v k - a k * b k).sum = dot u v m - dot a b m
  | 0 => rfl
  | m + 1 => by
    rw [List.range_succ, List.map_append, List.sum_append, sum_sub u v a b m, dot_last, dot_last]
    simp
    omega
/-- two stands meet with 0 -/
theorem st_fair {p : Int} {hs : List Int} {gs : List (List Int)} {ns ms : List Int} (sy : Sy gs) : Cg p (List.zipWith (fun u v => u.1 * v.2 - v.1 * u.2) (stP p hs gs ns) (stP p hs gs ms)).sum 0 := by
  have key := meets_range (p := p) (F := fun u v : Int × Int => u.1 * v.2 - v.1 * u.2) (G := fun j => vec ns j * toldV gs (vec ms) hs.length j - vec ms j * toldV gs (vec ns) hs.length j) (f := fun j => if vec hs j = 0 then (vec ns j, toldV gs (vec ns) hs.length j % p) else ((0 - toldV gs (vec ns) hs.length j % p) % p, vec ns j)) (g := fun j => if vec hs j = 0 then (vec ms j, toldV gs (vec ms) hs.length j % p) else ((0 - toldV gs (vec ms) hs.length j % p) % p, vec ms j)) hs.length fun j _ => by
    have c1 := Cg.mod (p := p) (toldV gs (vec ns) hs.length j)
    have c2 := Cg.mod (p := p) (toldV gs (vec ms) hs.length j)
    split
    · exact ((Cg.rfl' (a := vec ns j)).mul c2).sub ((Cg.rfl' (a := vec ms j)).mul c1)
    · have d1 := (Cg.mod (p := p) (0 - toldV gs (vec ns) hs.length j % p)).trans ((Cg.rfl' (a := 0)).sub c1)
      have d2 := (Cg.mod (p := p) (0 - toldV gs (vec ms) hs.length j % p)).trans ((Cg.rfl' (a := 0)).sub c2)
      have e := (d1.mul (Cg.rfl' (a := vec ms j))).sub (d2.mul (Cg.rfl' (a := vec ns j)))
      have z : (0 - toldV gs (vec ns) hs.length j) * vec ms j - (0 - toldV gs (vec ms) hs.length j) * vec ns j = vec ns j * toldV gs (vec ms) hs.length j - vec ms j * toldV gs (vec ns) hs.length j := by grind
      rw [z] at e
      exact e
  refine key.trans ?_
  rw [sum_sub]
  have x : dot (vec ms) (toldV gs (vec ns) hs.length) hs.length = dot (vec ns) (toldV gs (vec ms) hs.length) hs.length := by
    rw [dot_comm]
    have e := dot_dotM (a := vec ns) (b := vec ms) (M := fun i k => col gs k i) (n := hs.length) hs.length
    refine e.trans ?_
    congr 1
    funext i
    have e2 : (fun k => col gs k i) = col gs i := funext fun k => sy i k
    rw [e2, dot_comm]
    rfl
  rw [x]
  exact ⟨0, by omega⟩
theorem unit_at {m k j : Nat} : vec (unitL m k) j = if j = k ∧ j < m then 1 else 0 := by
  show (unitL m k).getD j 0 = _
  unfold unitL
  rw [List.getD_eq_getElem?_getD, List.getElem?_map]
  by_cases h : j < m
  · rw [List.getElem?_range h]
    by_cases e : j = k
    · rw [if_pos ⟨e, h⟩]
      show (if j = k then (1 : Int) else 0) = 1
      rw [if_pos e]
    · rw [if_neg (fun z => e z.1)]
      show (if j = k then (1 : Int) else 0) = 0
      rw [if_neg e]
  · rw [List.getElem?_eq_none (by simpa using h)]
    rw [if_neg (fun z => h z.2)]
    rfl
theorem unit_rg {p : Int} {m k : Nat} (p1 : 1 < p) : Rg p (unitL m k) := fun u hu => by
  obtain ⟨j, _, rfl⟩ := List.mem_map.mp hu
  split <;> omega
theorem unit_len {m k : Nat} : (unitL m k).length = m := by
  unfold unitL
  rw [List.length_map, List.length_range]
/-- the place of post k's held number -/
def plc (hs : List Int) (k : Nat) : Nat := if vec hs k = 0 then 2 * k else 2 * k + 1
/-- a stand's held number -/
theorem st_held {p : Int} {hs : List Int} {gs : List (List Int)} {ns : List Int} {k : Nat} (h : k < hs.length) : vec (flatR (stP p hs gs ns)) (plc hs k) = vec ns k := by
  obtain ⟨a, b⟩ := vec_flatP (stP p hs gs ns) k
  have e : (stP p hs gs ns).getD k (0, 0) = if vec hs k = 0 then (vec ns k, toldV gs (vec ns) hs.length k % p) else ((0 - toldV gs (vec ns) hs.length k % p) % p, vec ns k) := by
    rw [List.getD_eq_getElem?_getD, st_get h]
    rfl
  rw [e] at a b
  unfold plc
  split
  · rename_i z
    rw [if_pos z] at a
    exact a
  · rename_i z
    rw [if_neg z] at b
    exact b
theorem units_get {p : Int} {hs : List Int} {gs : List (List Int)} {k : Nat} (h : k < hs.length) : (unitsP p hs gs)[k]? = some (stP p hs gs (unitL hs.length k)) := by
  unfold unitsP
  rw [List.getElem?_map, List.getElem?_range h]
  rfl
theorem units_len {p : Int} {hs : List Int} {gs : List (List Int)} : (unitsP p hs gs).length = hs.length := by
  unfold unitsP
  rw [List.length_map, List.length_range]
theorem units_fit {p : Int} {hs : List Int} {gs : List (List Int)} (p1 : 1 < p) : ∀ r ∈ unitsP p hs gs, InP p r ∧ r.length = hs.length := fun r hr => by
  obtain ⟨k, _, rfl⟩ := List.mem_map.mp hr
  exact ⟨st_in (by omega) (unit_rg p1), st_len⟩
theorem units_fresh {p : Int} {hs : List Int} {gs : List (List Int)} (p1 : 1 < p) : ∀ m, m ≤ hs.length → Fresh p (((unitsP p hs gs).take m).map flatR)
  | 0, _ => by
    rw [List.take_zero]
    exact .nil
  | m + 1, h => by
    have ih := units_fresh (p := p) (hs := hs) (gs := gs) p1 m (by omega)
    have e := units_get (p := p) (gs := gs) (hs := hs) (k := m) (by omega)
    rw [List.take_add_one, e, List.map_append]
    refine .snoc (plc hs m) ih (fun f hf => ?_) fun z => ?_
    · obtain ⟨r, hr, rfl⟩ := List.mem_map.mp hf
      obtain ⟨k, hk⟩ := List.mem_iff_getElem?.mp hr
      have hkm : k < m := by
        have := (List.getElem?_eq_some_iff.mp hk).1
        rw [List.length_take] at this
        omega
      rw [List.getElem?_take, if_pos hkm, units_get (p := p) (hs := hs) (gs := gs) (k := k) (by omega)] at hk
      cases hk
      rw [st_held (hs := hs) (k := m) (by omega), unit_at, if_neg (by omega)]
      exact Cg.rfl'
    · rw [st_held (hs := hs) (k := m) (by omega), unit_at, if_pos ⟨rfl, by omega⟩] at z
      have := cg_eq (p := p) ⟨by omega, p1⟩ ⟨Int.le_refl 0, by omega⟩ z
      omega
theorem units_fair {p : Int} {hs : List Int} {gs : List (List Int)} (sy : Sy gs) : ∀ r ∈ unitsP p hs gs, ∀ s ∈ unitsP p hs gs, Cg p (List.zipWith (fun u v => u.1 * v.2 - v.1 * u.2) r s).sum 0 := fun r hr s hs' => by
  obtain ⟨k, _, rfl⟩ := List.mem_map.mp hr
  obtain ⟨j, _, rfl⟩ := List.mem_map.mp hs'
  exact st_fair sy
/-- rows of one lot whose spanning rows meet with 0 meet with 0 -/
theorem lot_fair {p : Int} {m : Nat} {rs : List RowP} (lr : ∀ r ∈ rs, r.length = m) (h : ∀ r ∈ rs, ∀ s ∈ rs, Cg p (List.zipWith (fun u v => u.1 * v.2 - v.1 * u.2) r s).sum 0) {r s : RowP} (l1 : r.length = m) (l2 : s.length = m) (h1 : Lot p (spn (rs.map flatR)) (vec (flatR r))) (h2 : Lot p (spn (rs.map flatR)) (vec (flatR s))) : Cg p (List.zipWith (fun u v => u.1 * v.2 - v.1 * u.2) r s).sum 0 := by
  have met : ∀ r s : RowP, r.length = m → s.length = m → (List.zipWith (fun u v => u.1 * v.2 - v.1 * u.2) r s).sum = dot (crs (vec (flatR r))) (vec (flatR s)) (2 * m) := fun r s a b => by
    have e := meet_dot (r := r) (s := s) (by rw [a, b])
    rw [a] at e
    exact e
  have half : ∀ r ∈ rs, Cg p (dot (crs (vec (flatR r))) (vec (flatR s)) (2 * m)) 0 := fun r hr => dot_lotR h2 fun v hv => by
    obtain ⟨f, hf, rfl⟩ := hv
    obtain ⟨t, ht, rfl⟩ := List.mem_map.mp hf
    rw [← met r t (lr r hr) (lr t ht)]
    exact h r hr t ht
  rw [met r s l1 l2, dot_crs]
  have z : Cg p (dot (crs (vec (flatR s))) (vec (flatR r)) (2 * m)) 0 := dot_lotR h1 fun v hv => by
    obtain ⟨f, hf, rfl⟩ := hv
    obtain ⟨t, ht, rfl⟩ := List.mem_map.mp hf
    rw [dot_crs]
    have a := (Cg.rfl' (p := p) (a := 0)).sub (half t ht)
    have e : (0 : Int) - dot (crs (vec (flatR t))) (vec (flatR s)) (2 * m) = -dot (crs (vec (flatR t))) (vec (flatR s)) (2 * m) := by omega
    rw [e, Int.sub_zero] at a
    exact a
  have a := (Cg.rfl' (p := p) (a := 0)).sub z
  have e : (0 : Int) - dot (crs (vec (flatR s))) (vec (flatR r)) (2 * m) = -dot (crs (vec (flatR s))) (vec (flatR r)) (2 * m) := by omega
  rw [e, Int.sub_zero] at a
  exact a
/-- so many plain rows -/
theorem units_plain {p : Int} {hs : List Int} {gs : List (List Int)} {fs : List (List Int)} {L : List (Nat × List Int)} (p1 : 1 < p) (inv : ∀ u, 0 < u → u < p → ∃ c, c * u % p = 1) (pl : PL p (2 * hs.length) fs L) (e : ∀ u, Lot p (spn fs) u ↔ Lot p (spn ((unitsP p hs gs).map flatR)) u) : L.length = hs.length := by
  have fr := units_fresh (p := p) (hs := hs) (gs := gs) p1 hs.length (Nat.le_refl _)
  have tk : (unitsP p hs gs).take hs.length = unitsP p hs gs := List.take_of_length_le (by rw [units_len]; exact Nat.le_refl _)
  rw [tk] at fr
  obtain ⟨M, pm, lm⟩ := fr.pl (n := 2 * hs.length) p1 inv fun f hf => by
    obtain ⟨r, hr, rfl⟩ := List.mem_map.mp hf
    obtain ⟨i, l⟩ := units_fit p1 r hr
    refine ⟨by rw [flat_len, l], fun u hu => ?_⟩
    obtain ⟨v, hv, hm⟩ := List.mem_flatMap.mp hu
    have := i v hv
    have m : u = v.1 ∨ u = v.2 := by simpa using hm
    rcases m with e | e
    · rw [e]; exact this.1
    · rw [e]; exact this.2
  rw [PL.len_eq p1 pl pm e, lm, List.length_map, units_len]
end Lin
/-! rows by the sides of a hold; the table of a thing by a hold; stands as sums -/
namespace Lin
theorem vec_app (a b : List Int) (i : Nat) : vec (a ++ b) i = if i < a.length then vec a i else vec b (i - a.length) := by
  show (a ++ b).getD i 0 = _
  rw [List.getD_eq_getElem?_getD]
  by_cases h : i < a.length
  · rw [if_pos h, List.getElem?_append_left h]
    show _ = a.getD i 0
    rw [List.getD_eq_getElem?_getD]
  · rw [if_neg h, List.getElem?_append_right (by omega)]
    show _ = b.getD (i - a.length) 0
    rw [List.getD_eq_getElem?_getD]
def sdP (p : Int) (hs : List Int) (r : RowP) : List Int := List.zipWith (fun h u => if h = 0 then u.1 else u.2) hs r ++ List.zipWith (fun h u => if h = 0 then u.2 else -u.1 % p) hs r
def sdV (hs : List Int) (v : Vc) : Vc := fun i => if i < hs.length then v (plc hs i) else if i < 2 * hs.length then (if vec hs (i - hs.length) = 0 then v (2 * (i - hs.length) + 1) else -v (2 * (i - hs.length))) else 0
theorem sd_len {p : Int} {hs : List Int} {r : RowP} (h : r.length = hs.length) : (sdP p hs r).length = 2 * hs.length := by
  unfold sdP
  rw [List.length_append, List.length_zipWith, List.length_zipWith]
  omega
theorem zip_vec {f : Int → Int × Int → Int} {hs : List Int} {r : RowP} {j : Nat} (h : r.length = hs.length) (hj : j < hs.length) : vec (List.zipWith f hs r) j = f (vec hs j) (r.getD j (0, 0)) := by
  have e1 : hs[j]? = some (vec hs j) := by
    have e := List.getElem?_eq_getElem hj
    rw [e, vec_some e]
  have e2 : r[j]? = some (r.getD j (0, 0)) := by
    rw [List.getD_eq_getElem?_getD, List.getElem?_eq_getElem (by omega)]
    rfl
  refine vec_some ?_
  rw [List.getElem?_zipWith, e1, e2]
theorem sd_vec {p : Int} {hs : List Int} {r : RowP} (h : r.length = hs.length) : Eqv p (vec (sdP p hs r)) (sdV hs (vec (flatR r))) := fun i => by
  unfold sdP sdV
  rw [vec_app, List.length_zipWith, h, Nat.min_self]
  by_cases h1 : i < hs.length
  · rw [if_pos h1, if_pos h1, zip_vec h h1]
    obtain ⟨a, b⟩ := vec_flatP r i
    unfold plc
    split
    · rw [a]
      exact Cg.rfl'
    · rw [b]
      exact Cg.rfl'
  · rw [if_neg h1, if_neg h1]
    by_cases h2 : i < 2 * hs.length
    · rw [if_pos h2, zip_vec h (by omega)]
      obtain ⟨a, b⟩ := vec_flatP r (i - hs.length)
      split
      · rw [b]
        exact Cg.rfl'
      · rw [a]
        exact Cg.mod _
    · rw [if_neg h2, vec_out (by rw [List.length_zipWith]; omega)]
      exact Cg.rfl'
theorem sd_rg {p : Int} {hs : List Int} {r : RowP} (p0 : 0 < p) (h : InP p r) : Rg p (sdP p hs r) := fun u hu => by
  unfold sdP at hu
  have b : ∀ x : Int, 0 ≤ x % p ∧ x % p < p := fun x => ⟨Int.emod_nonneg _ (by omega), Int.emod_lt_of_pos _ p0⟩
  rcases List.mem_append.mp hu with m | m
  · obtain ⟨i, hi, rfl⟩ := List.mem_iff_getElem.mp m
    rw [List.getElem_zipWith]
    have := h _ (List.getElem_mem (l := r) (n := i) (by rw [List.length_zipWith] at hi; omega))
    split
    · exact this.1
    · exact this.2
  · obtain ⟨i, hi, rfl⟩ := List.mem_iff_getElem.mp m
    rw [List.getElem_zipWith]
    have := h _ (List.getElem_mem (l := r) (n := i) (by rw [List.length_zipWith] at hi; omega))
    split
    · exact this.2
    · exact b _
theorem sd_comb {hs : List Int} {u v : Vc} {c : Int} (i : Nat) : sdV hs (fun j => u j + c * v j) i = sdV hs u i + c * sdV hs v i := by
  unfold sdV
  split
  · rfl
  · split
    · split
      · rfl
      · grind
    · grind
theorem sd_eqv {p : Int} {hs : List Int} {u v : Vc} (h : Eqv p u v) : Eqv p (sdV hs u) (sdV hs v) := fun i => by
  unfold sdV
  split
  · exact h _
  · split
    · split
      · exact h _
      · have a := (Cg.rfl' (p := p) (a := 0)).sub (h (2 * (i - hs.length)))
        rw [Int.zero_sub, Int.zero_sub] at a
        exact a
    · exact Cg.rfl'
theorem lot_sd {p : Int} {hs : List Int} {R S : Vc → Prop} {u : Vc} (h : Lot p R u) (k : ∀ v, R v → Lot p S (sdV hs v)) : Lot p S (sdV hs u) := by
  induction h with
  | zero =>
    refine .eqv .zero fun i => ?_
    · have e : sdV hs (fun _ => 0) i = 0 := by
        unfold sdV
        split
        · rfl
        · split
          · split <;> rfl
          · rfl
      rw [e]
      exact Cg.rfl'
  | add c _ r ih =>
    refine .eqv (Lot.comb c ih (k _ r)) fun i => ?_
    rw [sd_comb]
    exact Cg.rfl'
  | eqv _ e ih => exact .eqv ih (sd_eqv e)
theorem span_sd {p : Int} {hs : List Int} {ss us : List RowP} (ls : ∀ r ∈ ss, r.length = hs.length) (lu : ∀ r ∈ us, r.length = hs.length) (h : ∀ u, Lot p (spn (ss.map flatR)) u ↔ Lot p (spn (us.map flatR)) u) (u : Vc) : Lot p (spn (ss.map (sdP p hs))) u ↔ Lot p (spn (us.map (sdP p hs))) u := by
  have one : ∀ {xs ys : List RowP}, (∀ r ∈ xs, r.length = hs.length) → (∀ r ∈ ys, r.length = hs.length) → (∀ u, Lot p (spn (xs.map flatR)) u → Lot p (spn (ys.map flatR)) u) → ∀ v, spn (xs.map (sdP p hs)) v → Lot p (spn (ys.map (sdP p hs))) v := by
    intro xs ys lx ly hh v hv
    obtain ⟨f, hf, rfl⟩ := hv
    obtain ⟨r, hr, rfl⟩ := List.mem_map.mp hf
    have a := hh _ (.of ⟨flatR r, List.mem_map.mpr ⟨r, hr, rfl⟩, rfl⟩)
    refine .eqv (lot_sd (hs := hs) a fun w hw => ?_) (sd_vec (lx r hr)).symm
    obtain ⟨f, hf, rfl⟩ := hw
    obtain ⟨s, hs', rfl⟩ := List.mem_map.mp hf
    exact .eqv (.of ⟨sdP p hs s, List.mem_map.mpr ⟨s, hs', rfl⟩, rfl⟩) (sd_vec (ly s hs'))
  exact Lot.iff (one ls lu fun u => (h u).mp) (one lu ls fun u => (h u).mpr) u
/-- what is told at all posts -/
def toldL (p : Int) (gs : List (List Int)) (ns : List Int) (m : Nat) : List Int := (List.range m).map fun j => toldV gs (vec ns) m j % p
theorem sd_st {p : Int} {hs : List Int} {gs : List (List Int)} {ns : List Int} (p0 : 0 < p) (hl : ns.length = hs.length) : sdP p hs (stP p hs gs ns) = ns ++ toldL p gs ns hs.length := by
  unfold sdP
  congr 1
  · apply List.ext_getElem?
    intro j
    rw [List.getElem?_zipWith]
    by_cases h : j < hs.length
    · have e1 := List.getElem?_eq_getElem h
      have en := List.getElem?_eq_getElem (l := ns) (i := j) (by omega)
      rw [st_get h, e1, en]
      show some (if hs[j] = 0 then _ else _) = some ns[j]
      rw [← vec_some e1, ← vec_some en]
      split <;> rfl
    · rw [List.getElem?_eq_none (l := hs) (by omega), List.getElem?_eq_none (l := ns) (by omega)]
  · apply List.ext_getElem?
    intro j
    rw [List.getElem?_zipWith]
    by_cases h : j < hs.length
    · have e1 := List.getElem?_eq_getElem h
      rw [st_get h, e1]
      unfold toldL
      rw [List.getElem?_map, List.getElem?_range h]
      show some (if hs[j] = 0 then _ else _) = some _
      rw [← vec_some e1]
      split
      · rfl
      · dsimp only
        congr 1
        have b : ∀ x : Int, 0 ≤ x % p ∧ x % p < p := fun x => ⟨Int.emod_nonneg _ (by omega), Int.emod_lt_of_pos _ p0⟩
        refine cg_eq (b _) (b _) ?_
        have c := (Cg.mod (p := p) (0 - toldV gs (vec ns) hs.length j % p))
        have d := (Cg.mod (p := p) (-((0 - toldV gs (vec ns) hs.length j % p) % p))).trans (by
          have a := (Cg.rfl' (p := p) (a := 0)).sub c
          rw [Int.zero_sub] at a
          exact a)
        have e : (0 : Int) - (0 - toldV gs (vec ns) hs.length j % p) = toldV gs (vec ns) hs.length j % p := by omega
        rw [e] at d
        exact d
    · rw [List.getElem?_eq_none (l := hs) (by omega)]
      exact (List.getElem?_eq_none (by unfold toldL; rw [List.length_map, List.length_range]; omega)).symm
theorem dot_unit {m k : Nat} {v : Vc} (h : k < m) : dot (vec (unitL m k)) v m = v k := by
  have e := dot_ext m (u := vec (unitL m k)) (v := un k) (w := v) (x := v) (fun i hi => by
    rw [unit_at]
    show _ = if i = k then 1 else 0
    by_cases z : i = k
    · rw [if_pos ⟨z, hi⟩, if_pos z]
    · rw [if_neg (fun w => z w.1), if_neg z]) fun _ _ => rfl
  rw [e, dot_comm, dot_un m k v h]
theorem told_unit {p : Int} {gs : List (List Int)} {m k : Nat} {g : List Int} (h : k < m) (eg : gs[k]? = some g) (gl : g.length = m) (rg : Rg p g) (p0 : 0 < p) : toldL p gs (unitL m k) m = g := by
  unfold toldL
  apply List.ext_getElem?
  intro j
  rw [List.getElem?_map]
  by_cases hj : j < m
  · rw [List.getElem?_range hj]
    have e : col gs j k = vec g j := by
      unfold col
      rw [List.getD_eq_getElem?_getD, eg]
      rfl
    have e2 : g[j]? = some (vec g j) := by
      have e := List.getElem?_eq_getElem (l := g) (i := j) (by omega)
      rw [e, vec_some e]
    show some (toldV gs (vec (unitL m k)) m j % p) = _
    unfold toldV
    rw [dot_unit h, e, e2]
    have := rg.vec p0 j
    rw [Int.emod_eq_of_lt this.1 this.2]
  · rw [List.getElem?_eq_none (by simpa using hj), List.getElem?_eq_none (by omega)]
    rfl
/-- the leads of a thing by a hold that stands: the numbers held alone, then the table -/
theorem lead_table {p : Int} {hs : List Int} {gs : List (List Int)} {fs : List (List Int)} {L : List (Nat × List Int)} (p1 : 1 < p) (gl : gs.length = hs.length) (gok : ∀ g ∈ gs, g.length = hs.length ∧ Rg p g) (pl : PL p (2 * hs.length) fs L) (up : Up L)
    (e : ∀ u, Lot p (spn fs) u ↔ Lot p (spn ((unitsP p hs gs).map (sdP p hs))) u) : L = (List.range hs.length).zip ((List.range hs.length).map fun k => unitL hs.length k ++ gs.getD k []) := by
  have p0 : 0 < p := by omega
  have eu : (unitsP p hs gs).map (sdP p hs) = (List.range hs.length).map fun k => unitL hs.length k ++ gs.getD k [] := by
    unfold unitsP
    rw [List.map_map]
    apply List.map_congr_left
    intro k hk
    have hk' := List.mem_range.mp hk
    have eg : gs[k]? = some (gs.getD k []) := by
      rw [List.getD_eq_getElem?_getD, List.getElem?_eq_getElem (by omega)]
      rfl
    have ok := gok _ (List.mem_of_getElem? eg)
    show sdP p hs (stP p hs gs (unitL hs.length k)) = _
    rw [sd_st p0 unit_len, told_unit hk' eg ok.1 ok.2 p0]
  have pln : Pln p (2 * hs.length) (List.range hs.length) ((List.range hs.length).map fun k => unitL hs.length k ++ gs.getD k []) := by
    refine ⟨by rw [List.length_map], List.pairwise_lt_range, fun q hq => by have := List.mem_range.mp hq; omega, fun i q f hi hf => ?_⟩
    have hil : i < hs.length := by
      have := (List.getElem?_eq_some_iff.mp hi).1
      simpa using this
    rw [List.getElem?_range hil] at hi
    cases hi
    rw [List.getElem?_map, List.getElem?_range hil] at hf
    cases hf
    have eg : gs[i]? = some (gs.getD i []) := by
      rw [List.getD_eq_getElem?_getD, List.getElem?_eq_getElem (by omega)]
      rfl
    have ok := gok _ (List.mem_of_getElem? eg)
    have at_ : ∀ o, o < hs.length → vec (unitL hs.length i ++ gs.getD i []) o = if o = i then 1 else 0 := fun o ho => by
      rw [vec_app, unit_len, if_pos ho, unit_at]
      by_cases z : o = i
      · rw [if_pos ⟨z, ho⟩, if_pos z]
      · rw [if_neg (fun w => z w.1), if_neg z]
    refine ⟨by rw [List.length_append, unit_len, ok.1]; omega, fun u hu => ?_, fun j hj => by rw [at_ j (by omega), if_neg (by omega)], by rw [at_ i hil, if_pos rfl], fun o ho hlt => by rw [at_ o (List.mem_range.mp ho), if_neg (by omega)]⟩
    rcases List.mem_append.mp hu with m | m
    · exact unit_rg p1 u m
    · exact ok.2 u m
  obtain ⟨h1, h2⟩ := pln.pl
  refine pl.one p1 h1 up h2 fun u => ?_
  rw [← eu]
  exact e u
/-! stands as sums of the stands of 1 held alone -/
def stV (hs : List Int) (gs : List (List Int)) (m : Nat) (a : Vc) : Vc := fun i => if i < 2 * m then (if (vec hs (i / 2) = 0) = (i % 2 = 0) then a (i / 2) else if i % 2 = 0 then -toldV gs a m (i / 2) else toldV gs a m (i / 2)) else 0
theorem st_vec {p : Int} {hs : List Int} {gs : List (List Int)} {ns : List Int} : Eqv p (vec (flatR (stP p hs gs ns))) (stV hs gs hs.length (vec ns)) := fun i => by
  unfold stV
  by_cases h : i < 2 * hs.length
  · rw [if_pos h]
    have hj : i / 2 < hs.length := by omega
    obtain ⟨a, b⟩ := vec_flatP (stP p hs gs ns) (i / 2)
    have e : (stP p hs gs ns).getD (i / 2) (0, 0) = if vec hs (i / 2) = 0 then (vec ns (i / 2), toldV gs (vec ns) hs.length (i / 2) % p) else ((0 - toldV gs (vec ns) hs.length (i / 2) % p) % p, vec ns (i / 2)) := by
      rw [List.getD_eq_getElem?_getD, st_get hj]
      rfl
    rw [e] at a b
    have md := Cg.mod (p := p) (toldV gs (vec ns) hs.length (i / 2))
    by_cases z : vec hs (i / 2) = 0
    · rw [if_pos z] at a b
      by_cases q : i % 2 = 0
      · rw [if_pos (by simp [z, q])]
        have ei : 2 * (i / 2) = i := by omega
        rw [ei] at a
        rw [a]
        exact Cg.rfl'
      · rw [if_neg (by simp [z, q]), if_neg q]
        have ei : 2 * (i / 2) + 1 = i := by omega
        rw [ei] at b
        rw [b]
        exact md
    · rw [if_neg z] at a b
      by_cases q : i % 2 = 0
      · rw [if_neg (by simp [z, q]), if_pos q]
        have ei : 2 * (i / 2) = i := by omega
        rw [ei] at a
        rw [a]
        have c := (Cg.mod (p := p) (0 - toldV gs (vec ns) hs.length (i / 2) % p)).trans ((Cg.rfl' (a := 0)).sub md)
        rw [Int.zero_sub (toldV gs (vec ns) hs.length (i / 2))] at c
        exact c
      · rw [if_pos (by simp [z, q])]
        have ei : 2 * (i / 2) + 1 = i := by omega
        rw [ei] at b
        rw [b]
        exact Cg.rfl'
  · rw [if_neg h, vec_out (by rw [flat_len, st_len]; omega)]
    exact Cg.rfl'
theorem dot_neg : ∀ (n : Nat) (a f : Vc), dot a (fun k => -f k) n = -dot a f n
  | 0, _, _ => rfl
  | n + 1, a, f => by
    rw [dot_last, dot_last, dot_neg n a f]
    grind
theorem st_dot {hs : List Int} {gs : List (List Int)} {m : Nat} {a : Vc} {i : Nat} : dot a (fun k => stV hs gs m (vec (unitL m k)) i) m = stV hs gs m a i := by
  have td : ∀ j, dot a (fun k => toldV gs (vec (unitL m k)) m j) m = toldV gs a m j := fun j => by
    unfold toldV
    exact dot_ext m (fun _ _ => rfl) fun k hk => dot_unit hk
  unfold stV
  by_cases h : i < 2 * m
  · have hj : i / 2 < m := by omega
    simp only [if_pos h]
    by_cases z : (vec hs (i / 2) = 0) = (i % 2 = 0)
    · simp only [if_pos z]
      have e := dot_ext m (u := a) (v := a) (w := fun k => vec (unitL m k) (i / 2)) (x := un (i / 2)) (fun _ _ => rfl) fun k hk => by
        rw [unit_at]
        show _ = if k = i / 2 then 1 else 0
        by_cases q : i / 2 = k
        · rw [if_pos ⟨q, hj⟩, if_pos q.symm]
        · rw [if_neg (fun w => q w.1), if_neg (fun w => q w.symm)]
      rw [e, dot_un m (i / 2) a hj]
    · simp only [if_neg z]
      by_cases q : i % 2 = 0
      · simp only [if_pos q]
        rw [dot_neg, td]
      · simp only [if_neg q]
        exact td _
  · simp only [if_neg h]
    exact dot_zero m a
theorem in_sumP {p : Int} (p0 : 0 < p) : ∀ (l : List (Int × RowP)) (acc : RowP), InP p acc → InP p (sumP p acc l)
  | [], _, h => h
  | x :: l, acc, _ => in_sumP p0 l _ fun u hu => by
    unfold addP at hu
    obtain ⟨i, hi, rfl⟩ := List.mem_iff_getElem.mp hu
    rw [List.getElem_zipWith]
    exact ⟨⟨Int.emod_nonneg _ (by omega), Int.emod_lt_of_pos _ p0⟩, Int.emod_nonneg _ (by omega), Int.emod_lt_of_pos _ p0⟩
theorem flat_rgP {p : Int} {r : RowP} (h : InP p r) : Rg p (flatR r) := fun u hu => by
  obtain ⟨v, hv, hm⟩ := List.mem_flatMap.mp hu
  have := h v hv
  have m : u = v.1 ∨ u = v.2 := by simpa using hm
  rcases m with e | e
  · rw [e]; exact this.1
  · rw [e]; exact this.2
theorem stand_sum {p : Int} {hs : List Int} {gs : List (List Int)} {ns : List Int} (p1 : 1 < p) (hl : ns.length = hs.length) (rg : Rg p ns) : sumP p (List.replicate hs.length (0, 0)) (ns.zip (unitsP p hs gs)) = stP p hs gs ns := by
  have p0 : 0 < p := by omega
  have lu : ∀ x ∈ ns.zip (unitsP p hs gs), x.2.length = hs.length := fun x hx => (units_fit p1 _ (List.of_mem_zip hx).2).2
  have ul := units_len (p := p) (hs := hs) (gs := gs)
  apply flat_inj
  refine list_eq p0 (by rw [flat_len, flat_len, sum_lenP _ lu (by simp), st_len]) (flat_rgP (in_sumP p0 _ _ fun u hu => ?_)) (flat_rgP (st_in p0 rg)) fun j => ?_
  · rw [(List.mem_replicate.mp hu).2]
    exact ⟨⟨Int.le_refl 0, p0⟩, Int.le_refl 0, p0⟩
  have b := vec_sumP (p := p) (ns.zip (unitsP p hs gs)) (acc := List.replicate hs.length ((0 : Int), (0 : Int))) lu (by simp) j
  dsimp only at b
  rw [vec_noP, Int.zero_add, comb_dot (by rw [ul]; exact hl), ul] at b
  refine b.trans (Cg.trans ?_ (st_vec (ns := ns) j).symm)
  rw [← st_dot]
  refine dot_cgN hs.length (fun _ _ => Cg.rfl') fun k hk => ?_
  have e : col ((unitsP p hs gs).map flatR) j k = vec (flatR (stP p hs gs (unitL hs.length k))) j := by
    unfold col
    rw [List.getD_eq_getElem?_getD, List.getElem?_map, units_get hk]
    rfl
  rw [e]
  exact st_vec j
end Lin
set_option linter.all false
/-! two lots joined and crossed: their numbers of plain rows add up alike -/
namespace Lin
def FreeOver (p : Int) : List (List Int) → List (List Int) → Prop
  | _, [] => True
  | fs, f :: r => ¬ Lot p (spn fs) (vec f) ∧ FreeOver p (fs ++ [f]) r
theorem spn_sub {p : Int} {fs gs : List (List Int)} (h : ∀ f ∈ fs, f ∈ gs) {u : Vc} (k : Lot p (spn fs) u) : Lot p (spn gs) u :=
  Lot.sub (fun v hv => let ⟨f, hf, e⟩ := hv; Lot.of ⟨f, h f hf, e⟩) k
theorem FreeOver.mono {p : Int} : ∀ {r fs gs : List (List Int)}, (∀ f ∈ gs, f ∈ fs) → FreeOver p fs r → FreeOver p gs r
  | [], _, _, _, _ => trivial
  | f :: r, fs, gs, h, k => ⟨fun z => k.1 (spn_sub h z), FreeOver.mono (fun g hg => by
      rcases List.mem_append.mp hg with m | m
      · exact List.mem_append.mpr (.inl (h g m))
      · exact List.mem_append.mpr (.inr m)) k.2⟩
theorem first_of : ∀ us : List Int, (¬ ∀ x ∈ us, x = 0) → ∃ (j : Nat) (u : Int), us[j]? = some u ∧ u ≠ 0 ∧ ∀ i, i < j → us[i]? = some 0 := by
  intro us
  induction us with
  | nil => intro h; exact absurd (fun x hx => by cases hx) h
  | cons a us ih2 =>
    intro h
    by_cases ha : a = 0
    · have h' : ¬ ∀ x ∈ us, x = 0 := fun k => h fun x hx => by
        rcases List.mem_cons.mp hx with rfl | hx
        · exact ha
        · exact k x hx
      obtain ⟨j, u, e1, e2, e3⟩ := ih2 h'
      refine ⟨j + 1, u, e1, e2, fun i hi => ?_⟩
      cases i with
      | zero => rw [ha]; rfl
      | succ i => exact e3 i (by omega)
    · exact ⟨0, a, rfl, ha, fun i hi => absurd hi (Nat.not_lt_zero _)⟩
theorem FreeOver.pl {p : Int} {n : Nat} (p1 : 1 < p) (inv : ∀ u, 0 < u → u < p → ∃ c, c * u % p = 1) : ∀ {r fs : List (List Int)} {L : List (Nat × List Int)}, PL p n fs L → FreeOver p fs r → (∀ f ∈ r, f.length = n ∧ Rg p f) → ∃ M, PL p n (fs ++ r) M ∧ M.length = L.length + r.length
  | [], fs, L, h, _, _ => ⟨L, by rw [List.append_nil]; exact h, rfl⟩
  | f :: r, fs, L, pl, k, hf => by
    obtain ⟨fl, fr⟩ := hf f (by simp)
    have p0 : 0 < p := by omega
    obtain ⟨j, u, e1, e2, e3⟩ := first_of _ fun hz => k.1 ((pl.zero p0 fl fr).mp hz)
    have ur := clear_rg p0 L fr u (List.mem_of_getElem? e1)
    obtain ⟨c, hc⟩ := inv u (by omega) ur.2
    obtain ⟨M, h1, h2⟩ := FreeOver.pl p1 inv (pl.step p1 fl fr e1 e2 e3 hc) k.2 fun g hg => hf g (List.mem_cons_of_mem _ hg)
    refine ⟨M, by rw [List.append_assoc] at h1; exact h1, ?_⟩
    rw [h2, List.length_append]
    have e : (moreL p j (scaled p c (clearL p f L)) L).length = L.length := by simp [moreL]
    rw [e]
    simp only [List.length_cons, List.length_nil]
    omega
theorem extend {p : Int} : ∀ (gs fs : List (List Int)), ∃ es, (∀ e ∈ es, e ∈ gs) ∧ FreeOver p fs es ∧ ∀ g ∈ gs, Lot p (spn (fs ++ es)) (vec g)
  | [], fs => ⟨[], by simp, trivial, by simp⟩
  | g :: gs, fs => by
    by_cases h : Lot p (spn fs) (vec g)
    · obtain ⟨es, h1, h2, h3⟩ := extend gs fs
      refine ⟨es, fun e he => List.mem_cons_of_mem _ (h1 e he), h2, fun x hx => ?_⟩
      rcases List.mem_cons.mp hx with rfl | hx
      · exact spn_sub (fun f hf => List.mem_append.mpr (.inl hf)) h
      · exact h3 x hx
    · obtain ⟨es, h1, h2, h3⟩ := extend gs (fs ++ [g])
      refine ⟨g :: es, fun e he => ?_, ⟨h, h2⟩, fun x hx => ?_⟩
      · rcases List.mem_cons.mp he with rfl | he
        · simp
        · exact List.mem_cons_of_mem _ (h1 e he)
      · rw [List.append_assoc] at h3
        rcases List.mem_cons.mp hx with rfl | hx
        · exact Lot.of ⟨x, by simp, rfl⟩
        · exact h3 x hx
theorem lot_split {p : Int} {xs ys : List (List Int)} {u : Vc} (h : Lot p (spn (xs ++ ys)) u) : ∃ v w, Lot p (spn xs) v ∧ Lot p (spn ys) w ∧ Eqv p u fun i => v i + w i := by
  induction h with
  | zero => exact ⟨_, _, .zero, .zero, fun i => ⟨0, by simp⟩⟩
  | @add u v c _ r ih =>
    obtain ⟨a, b, ha, hb, e⟩ := ih
    obtain ⟨f, hf, rfl⟩ := r
    rcases List.mem_append.mp hf with m | m
    · refine ⟨fun i => a i + c * vec f i, b, ha.comb c (.of ⟨f, m, rfl⟩), hb, fun i => ?_⟩
      have k := (e i).add (Cg.rfl' (a := c * vec f i))
      have e2 : a i + b i + c * vec f i = a i + c * vec f i + b i := by omega
      rw [e2] at k
      exact k
    · refine ⟨a, fun i => b i + c * vec f i, ha, hb.comb c (.of ⟨f, m, rfl⟩), fun i => ?_⟩
      have k := (e i).add (Cg.rfl' (a := c * vec f i))
      rw [Int.add_assoc] at k
      exact k
  | eqv _ e ih =>
    obtain ⟨a, b, ha, hb, e2⟩ := ih
    exact ⟨a, b, ha, hb, e.symm.trans e2⟩
theorem dim {p : Int} {n : Nat} {fa fb fi : List (List Int)} {KA KB KS KI : List (Nat × List Int)} (p1 : 1 < p) (inv : ∀ u, 0 < u → u < p → ∃ c, c * u % p = 1) (ha : ∀ f ∈ fa, f.length = n ∧ Rg p f) (hb : ∀ f ∈ fb, f.length = n ∧ Rg p f)
    (hA : PL p n fa KA) (hB : PL p n fb KB) (hS : PL p n (fa ++ fb) KS) (hI : PL p n fi KI) (e : ∀ u, Lot p (spn fi) u ↔ Lot p (spn fa) u ∧ Lot p (spn fb) u) : KS.length + KI.length = KA.length + KB.length := by
  obtain ⟨es, a1, a2, a3⟩ := extend (p := p) fa fi
  obtain ⟨ds, b1, b2, b3⟩ := extend (p := p) fb (fi ++ es)
  have inA : ∀ f ∈ fi, Lot p (spn fa) (vec f) := fun f hf => ((e _).mp (.of ⟨f, hf, rfl⟩)).1
  have inB : ∀ f ∈ fi, Lot p (spn fb) (vec f) := fun f hf => ((e _).mp (.of ⟨f, hf, rfl⟩)).2
  have sA : ∀ u, Lot p (spn (fi ++ es)) u ↔ Lot p (spn fa) u := Lot.iff (fun v hv => by
      obtain ⟨f, hf, rfl⟩ := hv
      rcases List.mem_append.mp hf with m | m
      · exact inA f m
      · exact .of ⟨f, a1 f m, rfl⟩) (fun v hv => by
      obtain ⟨f, hf, rfl⟩ := hv
      exact a3 f hf)
  obtain ⟨M1, m1, l1⟩ := FreeOver.pl p1 inv hI a2 fun f hf => ha f (a1 f hf)
  obtain ⟨M2, m2, l2⟩ := FreeOver.pl p1 inv m1 b2 fun f hf => hb f (b1 f hf)
  obtain ⟨M3, m3, l3⟩ := FreeOver.pl p1 inv hI (b2.mono fun f hf => List.mem_append.mpr (.inl hf)) fun f hf => hb f (b1 f hf)
  have k1 := m1.len_eq p1 hA sA
  have k2 := m2.len_eq p1 hS (Lot.iff (fun v hv => by
      obtain ⟨f, hf, rfl⟩ := hv
      rcases List.mem_append.mp hf with m | m
      · exact spn_sub (fun g hg => List.mem_append.mpr (.inl hg)) ((sA _).mp (.of ⟨f, m, rfl⟩))
      · exact .of ⟨f, List.mem_append.mpr (.inr (b1 f m)), rfl⟩) (fun v hv => by
      obtain ⟨f, hf, rfl⟩ := hv
      rcases List.mem_append.mp hf with m | m
      · exact spn_sub (fun g hg => List.mem_append.mpr (.inl hg)) (a3 f m)
      · exact b3 f m))
  have k3 := m3.len_eq p1 hB (Lot.iff (fun v hv => by
      obtain ⟨f, hf, rfl⟩ := hv
      rcases List.mem_append.mp hf with m | m
      · exact inB f m
      · exact .of ⟨f, b1 f m, rfl⟩) (fun v hv => by
      obtain ⟨f, hf, rfl⟩ := hv
      obtain ⟨v, w, hv, hw, ev⟩ := lot_split (b3 f hf)
      have wB : Lot p (spn fb) w := spn_sub b1 hw
      have vB : Lot p (spn fb) v := by
        refine .eqv ((Lot.of (p := p) (R := spn fb) ⟨f, hf, rfl⟩).comb (-1) wB) fun i => ?_
        have k := (ev i).sub (Cg.rfl' (a := w i))
        have e1 : vec f i - w i = vec f i + -1 * w i := by omega
        have e2 : v i + w i - w i = v i := by omega
        rw [e1, e2] at k
        exact k
      have vI := (e v).mpr ⟨(sA v).mp hv, vB⟩
      refine .eqv ((spn_sub (fun g hg => List.mem_append.mpr (.inl hg)) vI).comb 1 (spn_sub (gs := fi ++ ds) (fun g hg => List.mem_append.mpr (.inr hg)) hw)) fun i => ?_
      have k := (ev i).symm
      rw [Int.one_mul]
      exact k))
  omega
end Lin
/-! all sums of multiples of rows that are free of one another -/
namespace Lin
/-- to each of these one multiple of r -/
def allS (p : Int) (acc : List RowP) (r : RowP) : List RowP := acc.flatMap fun a => (List.range p.toNat).map fun k => addP p a (timP p (k : Nat) r)
def allP (p : Int) (acc : List RowP) : List RowP → List RowP
  | [] => acc
  | r :: rs => allP p (allS p acc r) rs
theorem all_snoc {p : Int} {r : RowP} : ∀ (rs : List RowP) (acc : List RowP), allP p acc (rs ++ [r]) = allS p (allP p acc rs) r
  | [], _ => rfl
  | _ :: rs, acc => all_snoc rs _
theorem lot_last {p : Int} {fs : List (List Int)} {f : List Int} {u : Vc} (h : Lot p (spn (fs ++ [f])) u) : ∃ (c : Int) (v : Vc), Lot p (spn fs) v ∧ Eqv p u fun i => v i + c * vec f i := by
  induction h with
  | zero => exact ⟨0, _, .zero, fun i => ⟨0, by simp⟩⟩
  | @add u w c _ hw ih =>
    obtain ⟨d, v, hv, e⟩ := ih
    rcases (spn_snoc).mp hw with hw | rfl
    · refine ⟨d, _, .add c hv hw, fun i => ?_⟩
      obtain ⟨x, hx⟩ := e i
      exact ⟨x, by grind⟩
    · refine ⟨d + c, v, hv, fun i => ?_⟩
      obtain ⟨x, hx⟩ := e i
      exact ⟨x, by grind⟩
  | eqv _ e2 ih =>
    obtain ⟨d, v, hv, e⟩ := ih
    exact ⟨d, v, hv, fun i => (e2 i).symm.trans (e i)⟩
theorem row_eq {p : Int} {m : Nat} {r s : RowP} (p0 : 0 < p) (h1 : InP p r) (h2 : InP p s) (l1 : r.length = m) (l2 : s.length = m) (e : Eqv p (vec (flatR r)) (vec (flatR s))) : r = s :=
  flat_inj (list_eq p0 (by rw [flat_len, flat_len, l1, l2]) (flat_rgP h1) (flat_rgP h2) e)
theorem add_inP {p : Int} (p0 : 0 < p) {r s : RowP} : InP p (addP p r s) := fun u hu => by
  unfold addP at hu
  obtain ⟨i, hi, rfl⟩ := List.mem_iff_getElem.mp hu
  rw [List.getElem_zipWith]
  exact ⟨⟨Int.emod_nonneg _ (by omega), Int.emod_lt_of_pos _ p0⟩, Int.emod_nonneg _ (by omega), Int.emod_lt_of_pos _ p0⟩
/-- each row has a place at which it isn't 0, where all ahead of it are -/
def FreeP (p : Int) (rs : List RowP) : Prop := ∀ i r, rs[i]? = some r → ∃ q, (∀ s ∈ rs.take i, Cg p (vec (flatR s) q) 0) ∧ ¬ Cg p (vec (flatR r) q) 0
structure AllOf (p : Int) (m : Nat) (rs : List RowP) (xs : List RowP) : Prop where
  mem : ∀ x, x ∈ xs ↔ InP p x ∧ x.length = m ∧ Lot p (spn (rs.map flatR)) (vec (flatR x))
  nd : xs.Nodup
  len : xs.length = p.toNat ^ rs.length
theorem cancel {p a b c d : Int} (hc : c * d % p = 1) (h : Cg p (a * d) (b * d)) : Cg p a b := by
  have e : Cg p (c * d) 1 := by
    have := Cg.mod (p := p) (c * d)
    rw [hc] at this
    exact this.symm
  have h2 := (Cg.rfl' (p := p) (a := c)).mul h
  have h3 := (Cg.rfl' (p := p) (a := a)).mul e
  have h4 := (Cg.rfl' (p := p) (a := b)).mul e
  have e1 : c * (a * d) = a * (c * d) := by grind
  have e2 : c * (b * d) = b * (c * d) := by grind
  rw [e1, e2] at h2
  have := h3.symm.trans (h2.trans h4)
  simpa using this
theorem all_step {p : Int} {m : Nat} {rs : List RowP} {xs : List RowP} {r : RowP} (p1 : 1 < p) (inv : ∀ u, 0 < u → u < p → ∃ c, c * u % p = 1) (h : AllOf p m rs xs) (lrs : ∀ s ∈ rs, s.length = m) (lr : r.length = m) {q : Nat} (z : ∀ s ∈ rs, Cg p (vec (flatR s) q) 0) (nz : ¬ Cg p (vec (flatR r) q) 0) : AllOf p m (rs ++ [r]) (allS p xs r) := by
  have p0 : 0 < p := by omega
  have e : (rs ++ [r]).map flatR = rs.map flatR ++ [flatR r] := by rw [List.map_append]; rfl
  have lt : ∀ k : Int, (timP p k r).length = m := fun k => by rw [tim_lenP, lr]
  have va : ∀ (a : RowP) (k : Int), a.length = m → Eqv p (vec (flatR (addP p a (timP p k r)))) fun i => vec (flatR a) i + k * vec (flatR r) i := fun a k la i => (vec_addP (by rw [la, lt]) i).trans (Cg.rfl'.add (vec_timP i))
  have sub : ∀ {v : Vc}, Lot p (spn (rs.map flatR)) v → Lot p (spn (rs.map flatR ++ [flatR r])) v := fun hv => Lot.sub (fun w hw => .of (spn_snoc.mpr (.inl hw))) hv
  have q0 : ∀ x ∈ xs, Cg p (vec (flatR x) q) 0 := fun x hx => ((h.mem x).mp hx).2.2.at0 fun v hv => by
    obtain ⟨f, hf, rfl⟩ := hv
    obtain ⟨s, hs, rfl⟩ := List.mem_map.mp hf
    exact z s hs
  obtain ⟨c, hc⟩ : ∃ c, c * vec (flatR r) q % p = 1 := by
    have a := Int.emod_nonneg (vec (flatR r) q) (b := p) (by omega)
    have b := Int.emod_lt_of_pos (vec (flatR r) q) p0
    have n : vec (flatR r) q % p ≠ 0 := fun e => nz (by
      have := Cg.mod (p := p) (vec (flatR r) q)
      rw [e] at this
      exact this.symm)
    obtain ⟨c, hc⟩ := inv _ (by omega) b
    exact ⟨c, by rw [← hc, Int.mul_emod, Int.mul_emod c (vec (flatR r) q % p), Int.emod_emod]⟩
  have same : ∀ a ∈ xs, ∀ b ∈ xs, ∀ k j : Nat, (k : Int) < p → (j : Int) < p → addP p a (timP p (k : Nat) r) = addP p b (timP p (j : Nat) r) → k = j ∧ a = b := fun a ha b hb k j hk hj eq => by
    obtain ⟨ia, la, _⟩ := (h.mem a).mp ha
    obtain ⟨ib, lb, _⟩ := (h.mem b).mp hb
    have g : ∀ i, Cg p (vec (flatR a) i + (k : Int) * vec (flatR r) i) (vec (flatR b) i + (j : Int) * vec (flatR r) i) := fun i => by
      have x1 := va a k la i
      rw [eq] at x1
      exact x1.symm.trans (va b j lb i)
    have gq := g q
    have g2 : Cg p ((k : Int) * vec (flatR r) q) ((j : Int) * vec (flatR r) q) := by
      have x2 := gq.sub ((q0 a ha).trans (q0 b hb).symm)
      have e1 : vec (flatR a) q + (k : Int) * vec (flatR r) q - vec (flatR a) q = (k : Int) * vec (flatR r) q := by omega
      have e2 : vec (flatR b) q + (j : Int) * vec (flatR r) q - vec (flatR b) q = (j : Int) * vec (flatR r) q := by omega
      rw [e1, e2] at x2
      exact x2
    have ekj : (k : Int) = j := cg_eq ⟨by omega, hk⟩ ⟨by omega, hj⟩ (cancel hc g2)
    have ekj' : k = j := by omega
    refine ⟨ekj', row_eq p0 ia ib la lb fun i => ?_⟩
    have gi := g i
    rw [ekj] at gi
    have x := gi.sub (Cg.rfl' (p := p) (a := (j : Int) * vec (flatR r) i))
    have e1 : ∀ y z : Int, y + z - z = y := fun y z => by omega
    rw [e1, e1] at x
    exact x
  refine ⟨fun x => ?_, ?_, ?_⟩
  · constructor
    · intro hx
      obtain ⟨a, ha, hx⟩ := List.mem_flatMap.mp hx
      obtain ⟨k, hk, rfl⟩ := List.mem_map.mp hx
      obtain ⟨ia, la, ta⟩ := (h.mem a).mp ha
      refine ⟨add_inP p0, by rw [add_lenP (by rw [la, lt]), la], ?_⟩
      rw [e]
      exact .eqv (.add (k : Int) (sub ta) (spn_snoc.mpr (.inr rfl))) fun i => (va a k la i).symm
    · rintro ⟨ix, lx, tx⟩
      rw [e] at tx
      obtain ⟨d, v, hv, ev⟩ := lot_last tx
      have dk0 := Int.emod_nonneg d (b := p) (by omega)
      have dk1 := Int.emod_lt_of_pos d p0
      have ek : ((d % p).toNat : Int) = d % p := Int.toNat_of_nonneg dk0
      have ly : (addP p x (timP p (p - d % p) r)).length = m := by rw [add_lenP (by rw [lx, lt]), lx]
      have cd := Cg.mod (p := p) d
      have my : addP p x (timP p (p - d % p) r) ∈ xs := (h.mem _).mpr ⟨add_inP p0, ly, .eqv hv fun i => by
        refine Cg.symm ((va x (p - d % p) lx i).trans ?_)
        obtain ⟨x1, h1⟩ := ev i
        obtain ⟨x2, h2⟩ := cd
        exact ⟨x1 + vec (flatR r) i - x2 * vec (flatR r) i, by show vec (flatR x) i + (p - d % p) * vec (flatR r) i = _; rw [h1, h2]; grind⟩⟩
      refine List.mem_flatMap.mpr ⟨_, my, List.mem_map.mpr ⟨(d % p).toNat, List.mem_range.mpr (by omega), ?_⟩⟩
      refine row_eq (m := m) p0 (add_inP p0) ix (by rw [add_lenP (by rw [ly, lt]), ly]) lx fun i => ?_
      refine (va _ _ ly i).trans (((va x (p - d % p) lx i).add (Cg.rfl' (a := ((d % p).toNat : Int) * vec (flatR r) i))).trans ?_)
      rw [ek]
      exact ⟨vec (flatR r) i, by grind⟩
  · unfold allS
    show List.Pairwise (· ≠ ·) _
    rw [List.pairwise_flatMap]
    refine ⟨fun a ha => ?_, ?_⟩
    · rw [List.pairwise_map]
      refine List.Pairwise.imp_of_mem (fun {k j} hk hj hkj eq => ?_) List.nodup_range
      exact hkj (same a ha a ha k j (by have := List.mem_range.mp hk; omega) (by have := List.mem_range.mp hj; omega) eq).1
    · refine List.Pairwise.imp_of_mem (fun {a b} ha hb hab x hx y hy eq => ?_) h.nd
      obtain ⟨k, hk, rfl⟩ := List.mem_map.mp hx
      obtain ⟨j, hj, rfl⟩ := List.mem_map.mp hy
      exact hab (same a ha b hb k j (by have := List.mem_range.mp hk; omega) (by have := List.mem_range.mp hj; omega) eq).2
  · have ll : ∀ ys : List RowP, (ys.flatMap fun a => (List.range p.toNat).map fun k => addP p a (timP p (k : Nat) r)).length = ys.length * p.toNat := fun ys => by
      induction ys with
      | nil => simp
      | cons y ys ih =>
        rw [List.flatMap_cons, List.length_append, ih, List.length_map, List.length_range, List.length_cons, Nat.succ_mul]
        omega
    unfold allS
    rw [ll, h.len, List.length_append, List.length_singleton, Nat.pow_succ]
theorem all_nil {p : Int} {m : Nat} (p0 : 0 < p) : AllOf p m [] [List.replicate m ((0 : Int), (0 : Int))] := by
  have i0 : InP p (List.replicate m ((0 : Int), (0 : Int))) := fun u hu => by
    rw [(List.mem_replicate.mp hu).2]
    exact ⟨⟨Int.le_refl 0, p0⟩, Int.le_refl 0, p0⟩
  refine ⟨fun x => ?_, by simp, rfl⟩
  rw [List.mem_singleton]
  constructor
  · rintro rfl
    exact ⟨i0, by simp, .eqv .zero fun i => by rw [vec_noP]; exact Cg.rfl'⟩
  · rintro ⟨ix, lx, tx⟩
    refine row_eq (m := m) p0 ix i0 lx (by simp) fun i => ?_
    rw [vec_noP]
    exact tx.at0 fun v hv => by
      obtain ⟨f, hf, _⟩ := hv
      simp at hf
theorem all_of {p : Int} {m : Nat} {rs : List RowP} (p1 : 1 < p) (inv : ∀ u, 0 < u → u < p → ∃ c, c * u % p = 1) (lrs : ∀ s ∈ rs, s.length = m) (fr : FreeP p rs) : ∀ i, i ≤ rs.length → AllOf p m (rs.take i) (allP p [List.replicate m ((0 : Int), (0 : Int))] (rs.take i))
  | 0, _ => by
    rw [List.take_zero]
    exact all_nil (by omega)
  | i + 1, hi => by
    have ih := all_of p1 inv lrs fr i (by omega)
    have e : rs[i]? = some rs[i] := List.getElem?_eq_getElem hi
    rw [List.take_add_one, e]
    show AllOf p m (rs.take i ++ [rs[i]]) (allP p _ (rs.take i ++ [rs[i]]))
    rw [all_snoc]
    obtain ⟨q, z, nz⟩ := fr i _ e
    exact all_step p1 inv ih (fun s hs => lrs s (List.mem_of_mem_take hs)) (lrs _ (List.getElem_mem hi)) z nz
theorem all_perm {p : Int} {m : Nat} {rs ss : List RowP} (p1 : 1 < p) (inv : ∀ u, 0 < u → u < p → ∃ c, c * u % p = 1) (lr : ∀ s ∈ rs, s.length = m) (ls : ∀ s ∈ ss, s.length = m) (fr : FreeP p rs) (fs : FreeP p ss) (e : ∀ u, Lot p (spn (rs.map flatR)) u ↔ Lot p (spn (ss.map flatR)) u) :
    (allP p [List.replicate m ((0 : Int), (0 : Int))] rs).Perm (allP p [List.replicate m ((0 : Int), (0 : Int))] ss) := by
  have a := all_of p1 inv lr fr rs.length (Nat.le_refl _)
  have b := all_of p1 inv ls fs ss.length (Nat.le_refl _)
  rw [List.take_length] at a b
  refine (List.perm_ext_iff_of_nodup a.nd b.nd).mpr fun x => ?_
  rw [a.mem, b.mem, e]
theorem plain_free {p : Int} {n : Nat} {fs : List (List Int)} {L : List (Nat × List Int)} {rs : List RowP} (p1 : 1 < p) (pl : PL p n fs L) (e : rs.map flatR = L.map (·.2)) : FreeP p rs := fun i r hr => by
  have hi : (L.map (·.2))[i]? = some (flatR r) := by rw [← e, List.getElem?_map, hr]; rfl
  rw [List.getElem?_map] at hi
  obtain ⟨x, hx, ex⟩ := Option.map_eq_some_iff.mp hi
  have mx : (x.1, vec x.2) ∈ vecs L := List.mem_map.mpr ⟨x, List.mem_of_getElem? hx, rfl⟩
  refine ⟨x.1, fun s hs => ?_, fun z => ?_⟩
  · obtain ⟨j, hj⟩ := List.mem_iff_getElem?.mp hs
    have hji : j < i := by
      have := (List.getElem?_eq_some_iff.mp hj).1
      rw [List.length_take] at this
      omega
    rw [List.getElem?_take, if_pos hji] at hj
    have h2 : (L.map (·.2))[j]? = some (flatR s) := by rw [← e, List.getElem?_map, hj]; rfl
    rw [List.getElem?_map] at h2
    obtain ⟨y, hy, ey⟩ := Option.map_eq_some_iff.mp h2
    have my : (y.1, vec y.2) ∈ vecs L := List.mem_map.mpr ⟨y, List.mem_of_getElem? hy, rfl⟩
    have ne : y.1 ≠ x.1 := fun q => by
      have a : (L.map (·.1))[j]? = some y.1 := by rw [List.getElem?_map, hy]; rfl
      have b : (L.map (·.1))[i]? = some x.1 := by rw [List.getElem?_map, hx]; rfl
      rw [q] at a
      have := (List.getElem?_inj (List.getElem?_eq_some_iff.mp a).1 pl.nd).mp (a.trans b.symm)
      omega
    have z := pl.leads.other _ my _ mx ne
    rw [← ey]
    exact z
  · have s := pl.leads.self _ mx
    rw [← ex] at z
    exact one_zero p1 (s.symm.trans z)
theorem units_free {p : Int} {hs : List Int} {gs : List (List Int)} (p1 : 1 < p) : FreeP p (unitsP p hs gs) := fun i r hr => by
  have hi := (List.getElem?_eq_some_iff.mp hr).1
  rw [units_len] at hi
  rw [units_get hi] at hr
  cases hr
  refine ⟨plc hs i, fun s hs' => ?_, fun z => ?_⟩
  · obtain ⟨j, hj⟩ := List.mem_iff_getElem?.mp hs'
    have hji : j < i := by
      have := (List.getElem?_eq_some_iff.mp hj).1
      rw [List.length_take] at this
      omega
    rw [List.getElem?_take, if_pos hji, units_get (by omega)] at hj
    cases hj
    rw [st_held (hs := hs) (k := i) hi, unit_at, if_neg (by omega)]
    exact Cg.rfl'
  · rw [st_held (hs := hs) (k := i) hi, unit_at, if_pos ⟨rfl, hi⟩] at z
    exact one_zero p1 z
end Lin
set_option linter.all false
/-! holds looked at: which stand, what is still, tables, mending -/
namespace Lin
/-! back from sides -/
def rsV (hs : List Int) (w : Vc) : Vc := fun i => if i < 2 * hs.length then (if vec hs (i / 2) = 0 then (if i % 2 = 0 then w (i / 2) else w (hs.length + i / 2)) else (if i % 2 = 0 then -w (hs.length + i / 2) else w (i / 2))) else 0
theorem rs_comb {hs : List Int} {u v : Vc} {c : Int} (i : Nat) : rsV hs (fun j => u j + c * v j) i = rsV hs u i + c * rsV hs v i := by
  unfold rsV
  split
  · split
    · split <;> rfl
    · split
      · grind
      · rfl
  · grind
theorem rs_eqv {p : Int} {hs : List Int} {u v : Vc} (h : Eqv p u v) : Eqv p (rsV hs u) (rsV hs v) := fun i => by
  unfold rsV
  split
  · split
    · split
      · exact h _
      · exact h _
    · split
      · have a := (Cg.rfl' (p := p) (a := 0)).sub (h (hs.length + i / 2))
        rw [Int.zero_sub, Int.zero_sub] at a
        exact a
      · exact h _
  · exact Cg.rfl'
theorem lot_rs {p : Int} {hs : List Int} {R S : Vc → Prop} {u : Vc} (h : Lot p R u) (k : ∀ v, R v → Lot p S (rsV hs v)) : Lot p S (rsV hs u) := by
  induction h with
  | zero =>
    refine .eqv .zero fun i => ?_
    have e : rsV hs (fun _ => 0) i = 0 := by
      unfold rsV
      split
      · split
        · split <;> rfl
        · split <;> rfl
      · rfl
    rw [e]
    exact Cg.rfl'
  | add c _ r ih =>
    refine .eqv (Lot.comb c ih (k _ r)) fun i => ?_
    rw [rs_comb]
    exact Cg.rfl'
  | eqv _ e ih => exact .eqv ih (rs_eqv e)
theorem rs_sd {hs : List Int} {v : Vc} {i : Nat} (h : i < 2 * hs.length) : rsV hs (sdV hs v) i = v i := by
  have hk : i / 2 < hs.length := by omega
  have a1 : sdV hs v (i / 2) = v (plc hs (i / 2)) := by
    unfold sdV
    rw [if_pos hk]
  have a2 : sdV hs v (hs.length + i / 2) = if vec hs (i / 2) = 0 then v (2 * (i / 2) + 1) else -v (2 * (i / 2)) := by
    unfold sdV
    rw [if_neg (by omega), if_pos (by omega), Nat.add_sub_cancel_left]
  unfold rsV
  rw [if_pos h, a1, a2]
  unfold plc
  by_cases z : vec hs (i / 2) = 0
  · rw [if_pos z, if_pos z, if_pos z]
    split
    · congr 1; omega
    · congr 1; omega
  · rw [if_neg z, if_neg z, if_neg z]
    split
    · rw [Int.neg_neg]; congr 1; omega
    · congr 1; omega
theorem sd_rs {hs : List Int} {w : Vc} {i : Nat} (h : i < 2 * hs.length) : sdV hs (rsV hs w) i = w i := by
  unfold sdV
  by_cases h1 : i < hs.length
  · rw [if_pos h1]
    unfold plc rsV
    by_cases z : vec hs i = 0
    · rw [if_pos z, if_pos (by omega), show 2 * i / 2 = i by omega, if_pos z, if_pos (by omega)]
    · rw [if_neg z, if_pos (by omega), show (2 * i + 1) / 2 = i by omega, if_neg z, if_neg (by omega)]
  · rw [if_neg h1, if_pos h]
    unfold rsV
    by_cases z : vec hs (i - hs.length) = 0
    · rw [if_pos z, if_pos (by omega), show (2 * (i - hs.length) + 1) / 2 = i - hs.length by omega, if_pos z, if_neg (by omega)]
      congr 1; omega
    · rw [if_neg z, if_pos (by omega), show 2 * (i - hs.length) / 2 = i - hs.length by omega, if_neg z, if_pos (by omega), Int.neg_neg]
      congr 1; omega
theorem sd_plc {hs : List Int} {v : Vc} {k : Nat} (h : k < hs.length) : sdV hs v k = v (plc hs k) := by
  unfold sdV
  rw [if_pos h]
/-! the lots of rows and of their sides -/
theorem lot_out {p : Int} {m : Nat} {ss : List RowP} (l : ∀ r ∈ ss, r.length = m) {u : Vc} (h : Lot p (spn (ss.map flatR)) u) {i : Nat} (hi : 2 * m ≤ i) : Cg p (u i) 0 := h.at0 fun v hv => by
  obtain ⟨f, hf, rfl⟩ := hv
  obtain ⟨r, hr, rfl⟩ := List.mem_map.mp hf
  rw [vec_out (by rw [flat_len, l r hr]; omega)]
  exact Cg.rfl'
theorem sd_fwd {p : Int} {hs : List Int} {ss : List RowP} (l : ∀ r ∈ ss, r.length = hs.length) {u : Vc} (h : Lot p (spn (ss.map flatR)) u) : Lot p (spn (ss.map (sdP p hs))) (sdV hs u) := lot_sd h fun v hv => by
  obtain ⟨f, hf, rfl⟩ := hv
  obtain ⟨r, hr, rfl⟩ := List.mem_map.mp hf
  exact .eqv (.of ⟨sdP p hs r, List.mem_map.mpr ⟨r, hr, rfl⟩, rfl⟩) (sd_vec (l r hr))
theorem rs_row {p : Int} {hs : List Int} {r : RowP} (l : r.length = hs.length) : Eqv p (rsV hs (vec (sdP p hs r))) (vec (flatR r)) := fun i => by
  refine (rs_eqv (sd_vec (p := p) l) i).trans ?_
  by_cases h : i < 2 * hs.length
  · rw [rs_sd h]
    exact Cg.rfl'
  · unfold rsV
    rw [if_neg h, vec_out (by rw [flat_len, l]; omega)]
    exact Cg.rfl'
theorem sd_back {p : Int} {hs : List Int} {ss : List RowP} (l : ∀ r ∈ ss, r.length = hs.length) {w : Vc} (h : Lot p (spn (ss.map (sdP p hs))) w) : Lot p (spn (ss.map flatR)) (rsV hs w) := lot_rs h fun v hv => by
  obtain ⟨f, hf, rfl⟩ := hv
  obtain ⟨r, hr, rfl⟩ := List.mem_map.mp hf
  exact .eqv (.of ⟨flatR r, List.mem_map.mpr ⟨r, hr, rfl⟩, rfl⟩) (rs_row (l r hr)).symm
theorem rs_sd_eqv {p : Int} {hs : List Int} {ss : List RowP} (l : ∀ r ∈ ss, r.length = hs.length) {u : Vc} (h : Lot p (spn (ss.map flatR)) u) : Eqv p (rsV hs (sdV hs u)) u := fun i => by
  by_cases hi : i < 2 * hs.length
  · rw [rs_sd hi]
    exact Cg.rfl'
  · have e : rsV hs (sdV hs u) i = 0 := by unfold rsV; rw [if_neg hi]
    rw [e]
    exact (lot_out l h (by omega)).symm
/-- two lots whose sides agree -/
theorem span_of_sd {p : Int} {hs : List Int} {ss us : List RowP} (l1 : ∀ r ∈ ss, r.length = hs.length) (l2 : ∀ r ∈ us, r.length = hs.length) (h : ∀ w, Lot p (spn (ss.map (sdP p hs))) w ↔ Lot p (spn (us.map (sdP p hs))) w) (u : Vc) : Lot p (spn (ss.map flatR)) u ↔ Lot p (spn (us.map flatR)) u :=
  ⟨fun k => .eqv (sd_back l2 ((h _).mp (sd_fwd l1 k))) (rs_sd_eqv l1 k), fun k => .eqv (sd_back l1 ((h _).mpr (sd_fwd l2 k))) (rs_sd_eqv l2 k)⟩
/-! a thing: its own mirror -/
structure Lag (p : Int) (m : Nat) (ss : List RowP) : Prop where
  fit : ∀ r ∈ ss, InP p r ∧ r.length = m
  len : ss.length = m
  free : FreeP p ss
  fair : ∀ r ∈ ss, ∀ s ∈ ss, Cg p (List.zipWith (fun u v => u.1 * v.2 - v.1 * u.2) r s).sum 0
theorem free_sd {p : Int} {hs : List Int} {ss : List RowP} (l : ∀ r ∈ ss, r.length = hs.length) (fr : FreeP p ss) : ∀ (ys xs : List RowP), xs ++ ys = ss → FreeOver p (xs.map (sdP p hs)) (ys.map (sdP p hs))
  | [], _, _ => trivial
  | y :: ys, xs, e => by
    have hy : ss[xs.length]? = some y := by rw [← e, List.getElem?_append_right (Nat.le_refl _), Nat.sub_self]; rfl
    obtain ⟨q, z, nz⟩ := fr _ _ hy
    have et : ss.take xs.length = xs := by rw [← e, List.take_left]
    have lx : ∀ r ∈ xs, r.length = hs.length := fun r hr => l r (by rw [← e]; exact List.mem_append_left _ hr)
    refine ⟨fun h => ?_, ?_⟩
    · have b := Lot.eqv (sd_back lx h) (rs_row (l y (by rw [← e]; simp)))
      refine nz (b.at0 fun v hv => ?_)
      obtain ⟨f, hf, rfl⟩ := hv
      obtain ⟨r, hr, rfl⟩ := List.mem_map.mp hf
      exact z r (by rw [et]; exact hr)
    · have := free_sd l fr ys (xs ++ [y]) (by rw [List.append_assoc]; exact e)
      rw [List.map_append] at this
      exact this
theorem lead_many {p : Int} {hs : List Int} {ss : List RowP} {L : List (Nat × List Int)} (p1 : 1 < p) (inv : ∀ u, 0 < u → u < p → ∃ c, c * u % p = 1) (g : Lag p hs.length ss) (pl : PL p (2 * hs.length) (ss.map (sdP p hs)) L) : L.length = hs.length := by
  obtain ⟨M, h1, h2⟩ := FreeOver.pl p1 inv (PL.nil (p := p) (n := 2 * hs.length)) (free_sd (fun r hr => (g.fit r hr).2) g.free ss [] rfl) fun f hf => by
    obtain ⟨r, hr, rfl⟩ := List.mem_map.mp hf
    exact ⟨sd_len (g.fit r hr).2, sd_rg (by omega) (g.fit r hr).1⟩
  rw [pl.len_eq p1 h1 fun u => Iff.rfl, h2, List.length_map, g.len]
  exact Nat.zero_add _
/-! holds that stand -/
def Std (p : Int) (hs : List Int) (ss : List RowP) : Prop := ∀ u, Lot p (spn (ss.map flatR)) u → (∀ k, k < hs.length → Cg p (u (plc hs k)) 0) → Eqv p u fun _ => 0
theorem std_iff {p : Int} {hs : List Int} {ss : List RowP} {L : List (Nat × List Int)} (p1 : 1 < p) (l : ∀ r ∈ ss, r.length = hs.length) (pl : PL p (2 * hs.length) (ss.map (sdP p hs)) L) : Std p hs ss ↔ ∀ x ∈ L, x.1 < hs.length := by
  constructor
  · intro st x hx
    rcases Nat.lt_or_ge x.1 hs.length with h | h
    · exact h
    · exfalso
      have mx : (x.1, vec x.2) ∈ vecs L := List.mem_map.mpr ⟨x, hx, rfl⟩
      have lx : Lot p (spn (ss.map (sdP p hs))) (vec x.2) := (pl.lot _).mp (.of ⟨_, mx, rfl⟩)
      have z := st _ (sd_back l lx) fun k hk => by
        rw [← sd_plc (v := rsV hs (vec x.2)) hk, sd_rs (by omega)]
        exact pl.ahead _ mx k (by show k < x.1; omega)
      have px := pl.plc x hx
      have e := sd_eqv (hs := hs) z x.1
      rw [sd_rs px] at e
      have e0 : sdV hs (fun _ => 0) x.1 = 0 := by
        unfold sdV
        split
        · rfl
        · first | rfl | (split <;> first | rfl | (split <;> rfl))
      rw [e0] at e
      exact one_zero p1 ((pl.leads.self _ mx).symm.trans e)
  · intro h u lu z
    have lw := (pl.lot _).mpr (sd_fwd l lu)
    have e := (lot_iff pl.leads pl.ndv).mp lw
    have o := own_none (p := p) (u := sdV hs u) (L := vecs L) fun x hx => by
      obtain ⟨y, hy, rfl⟩ := mem_vecs.mp hx
      have hy' := h y hy
      show Cg p (sdV hs u y.1) 0
      rw [sd_plc hy']
      exact z _ hy'
    have w0 : Eqv p (sdV hs u) fun _ => 0 := e.symm.trans o
    have r0 := rs_eqv (hs := hs) w0
    refine (rs_sd_eqv l lu).symm.trans (r0.trans fun i => ?_)
    have e0 : rsV hs (fun _ => 0) i = 0 := by
      unfold rsV
      split
      · split
        · split <;> rfl
        · split <;> rfl
      · rfl
    rw [e0]
    exact Cg.rfl'
/-! meets by sides -/
theorem dot_pairs (u v : Vc) : ∀ m : Nat, dot (crs u) v (2 * m) = ((List.range m).map fun k => u (2 * k) * v (2 * k + 1) - u (2 * k + 1) * v (2 * k)).sum
  | 0 => rfl
  | m + 1 => by
    rw [show 2 * (m + 1) = 2 * m + 1 + 1 by omega, dot_last, dot_last, dot_pairs u v m, List.range_succ, List.map_append, List.sum_append]
    have a : crs u (2 * m) = -u (2 * m + 1) := by
      unfold crs
      rw [if_pos (by omega)]
    have b : crs u (2 * m + 1) = u (2 * m) := by
      unfold crs
      rw [if_neg (by omega)]
      congr 1
    rw [a, b]
    simp
    grind
theorem fair_sd {hs : List Int} (u v : Vc) : dot (crs u) v (2 * hs.length) = ((List.range hs.length).map fun k => sdV hs u k * sdV hs v (hs.length + k) - sdV hs v k * sdV hs u (hs.length + k)).sum := by
  rw [dot_pairs]
  congr 1
  apply List.map_congr_left
  intro k hk
  have hk' := List.mem_range.mp hk
  have s : ∀ w : Vc, sdV hs w (hs.length + k) = if vec hs k = 0 then w (2 * k + 1) else -w (2 * k) := fun w => by
    unfold sdV
    rw [if_neg (by omega), if_pos (by omega), Nat.add_sub_cancel_left]
  rw [sd_plc hk', sd_plc hk', s, s]
  unfold plc
  split
  · grind
  · grind
theorem lot_fairV {p : Int} {m : Nat} {ss : List RowP} (g : Lag p m ss) {u v : Vc} (h1 : Lot p (spn (ss.map flatR)) u) (h2 : Lot p (spn (ss.map flatR)) v) : Cg p (dot (crs u) v (2 * m)) 0 := by
  have half : ∀ r ∈ ss, Cg p (dot (crs (vec (flatR r))) v (2 * m)) 0 := fun r hr => dot_lotR h2 fun w hw => by
    obtain ⟨f, hf, rfl⟩ := hw
    obtain ⟨t, ht, rfl⟩ := List.mem_map.mp hf
    have e := meet_dot (r := r) (s := t) (by rw [(g.fit r hr).2, (g.fit t ht).2])
    rw [(g.fit r hr).2] at e
    rw [← e]
    exact g.fair r hr t ht
  have z : Cg p (dot (crs v) u (2 * m)) 0 := dot_lotR h1 fun w hw => by
    obtain ⟨f, hf, rfl⟩ := hw
    obtain ⟨t, ht, rfl⟩ := List.mem_map.mp hf
    rw [dot_crs]
    have a := (Cg.rfl' (p := p) (a := 0)).sub (half t ht)
    rw [Int.zero_sub, Int.sub_zero] at a
    exact a
  rw [dot_crs]
  have a := (Cg.rfl' (p := p) (a := 0)).sub z
  rw [Int.zero_sub, Int.sub_zero] at a
  exact a
theorem sum_one {p : Int} {f : Nat → Int} {j : Nat} : ∀ m, j < m → (∀ k, k < m → k ≠ j → Cg p (f k) 0) → Cg p ((List.range m).map f).sum (f j)
  | 0, h, _ => absurd h (Nat.not_lt_zero _)
  | m + 1, h, z => by
    rw [List.range_succ, List.map_append, List.sum_append]
    have one : ([m].map f).sum = f m := by simp
    rw [one]
    by_cases e : j = m
    · subst e
      have all : ∀ n, n ≤ j → Cg p ((List.range n).map f).sum 0 := fun n => by
        induction n with
        | zero => exact fun _ => Cg.rfl'
        | succ n ih =>
          intro hn
          rw [List.range_succ, List.map_append, List.sum_append]
          have o : ([n].map f).sum = f n := by simp
          rw [o]
          exact (ih (by omega)).add (z n (by omega) (by omega))
      have a := (all j (Nat.le_refl _)).add (Cg.rfl' (p := p) (a := f j))
      rw [Int.zero_add] at a
      exact a
    · have a := (sum_one m (by omega) fun k hk ne => z k (by omega) ne).add (z m (by omega) fun q => e q.symm)
      rw [Int.add_zero] at a
      exact a
/-! the table of a hold that stands -/
theorem up_range {m : Nat} {xs : List Nat} (up : xs.Pairwise (· < ·)) (lt : ∀ x ∈ xs, x < m) (len : xs.length = m) : xs = List.range m := by
  have st : ∀ i (h : i + 1 < xs.length), xs[i] < xs[i + 1] := fun i h => List.pairwise_iff_getElem.mp up i (i + 1) (by omega) h (by omega)
  have lo : ∀ i (h : i < xs.length), i ≤ xs[i] := fun i => by
    induction i with
    | zero => intro _; omega
    | succ i ih =>
      intro h
      have a := ih (by omega)
      have b := st i h
      omega
  have hi : ∀ d i (h : i < xs.length), i + d + 1 = m → xs[i] + d < m := fun d => by
    induction d with
    | zero =>
      intro i h e
      have := lt _ (List.getElem_mem h)
      omega
    | succ d ih =>
      intro i h e
      have a := ih (i + 1) (by omega) (by omega)
      have b := st i (by omega)
      omega
  refine List.ext_getElem (by rw [List.length_range, len]) fun i h1 h2 => ?_
  rw [List.getElem_range]
  have a := lo i h1
  have b := hi (m - i - 1) i h1 (by omega)
  omega
structure Tbl (p : Int) (m : Nat) (gs : List (List Int)) : Prop where
  len : gs.length = m
  ok : ∀ g ∈ gs, g.length = m ∧ Rg p g
  sy : Sy gs
theorem table_get {p : Int} {hs : List Int} {ss : List RowP} {L : List (Nat × List Int)} (p1 : 1 < p) (inv : ∀ u, 0 < u → u < p → ∃ c, c * u % p = 1) (g : Lag p hs.length ss) (pl : PL p (2 * hs.length) (ss.map (sdP p hs)) L) (up : Up L) (lt : ∀ x ∈ L, x.1 < hs.length) :
    ∃ gs, Tbl p hs.length gs ∧ (∀ i, i < hs.length → L[i]? = some (i, unitL hs.length i ++ gs.getD i [])) ∧ ∀ u, Lot p (spn (ss.map flatR)) u ↔ Lot p (spn ((unitsP p hs gs).map flatR)) u := by
  have p0 : 0 < p := by omega
  have Ll := lead_many p1 inv g pl
  have er : L.map (·.1) = List.range hs.length := up_range up (fun x hx => by obtain ⟨y, hy, rfl⟩ := List.mem_map.mp hx; exact lt y hy) (by rw [List.length_map, Ll])
  have at1 : ∀ i (h : i < hs.length), (L[i]'(by omega)).1 = i := fun i h => by
    have e : (L.map (·.1))[i]? = some i := by rw [er, List.getElem?_range h]
    rw [List.getElem?_map, List.getElem?_eq_getElem (by omega)] at e
    exact Option.some.inj e
  have mem : ∀ i (h : i < hs.length), L[i]'(by omega) ∈ L := fun i h => List.getElem_mem _
  have len2 : ∀ i (h : i < hs.length), (L[i]'(by omega)).2.length = 2 * hs.length := fun i h => pl.len _ (mem i h)
  have tk : ∀ i (h : i < hs.length), (L[i]'(by omega)).2.take hs.length = unitL hs.length i := fun i h => by
    have l1 : ((L[i]'(by omega)).2.take hs.length).length = hs.length := by rw [List.length_take, len2 i h]; omega
    refine list_eq p0 (by rw [l1, unit_len]) (fun u hu => pl.rg _ (mem i h) u (List.mem_of_mem_take hu)) (unit_rg p1) fun j => ?_
    by_cases hj : j < hs.length
    · have ev : vec ((L[i]'(by omega)).2.take hs.length) j = vec (L[i]'(by omega)).2 j := by
        show (List.take hs.length _).getD j 0 = List.getD _ j 0
        rw [List.getD_eq_getElem?_getD, List.getD_eq_getElem?_getD, List.getElem?_take, if_pos hj]
      rw [ev, unit_at]
      have mi : ((L[i]'(by omega)).1, vec (L[i]'(by omega)).2) ∈ vecs L := List.mem_map.mpr ⟨_, mem i h, rfl⟩
      by_cases e : j = i
      · rw [if_pos ⟨e, hj⟩, e]
        have := pl.leads.self _ mi
        rw [show ((L[i]'(by omega)).1, vec (L[i]'(by omega)).2).1 = i from at1 i h] at this
        exact this
      · rw [if_neg (fun z => e z.1)]
        have mj : ((L[j]'(by omega)).1, vec (L[j]'(by omega)).2) ∈ vecs L := List.mem_map.mpr ⟨_, mem j hj, rfl⟩
        have := pl.leads.other _ mi _ mj (by show (L[i]'(by omega)).1 ≠ (L[j]'(by omega)).1; rw [at1 i h, at1 j hj]; exact fun z => e z.symm)
        rw [show ((L[j]'(by omega)).1, vec (L[j]'(by omega)).2).1 = j from at1 j hj] at this
        exact this
    · rw [vec_out (by omega), vec_out (by rw [unit_len]; omega)]
      exact Cg.rfl'
  refine ⟨L.map fun x => x.2.drop hs.length, ⟨by rw [List.length_map, Ll], fun g hg => ?_, ?_⟩, fun i h => ?_, ?_⟩
  · obtain ⟨x, hx, rfl⟩ := List.mem_map.mp hg
    exact ⟨by rw [List.length_drop, pl.len x hx]; omega, fun u hu => pl.rg x hx u (List.mem_of_mem_drop hu)⟩
  · -- its own mirror
    intro i j
    have gd : ∀ k (h : k < hs.length), (L.map fun x => x.2.drop hs.length).getD k [] = (L[k]'(by omega)).2.drop hs.length := fun k h => by
      rw [List.getD_eq_getElem?_getD, List.getElem?_map, List.getElem?_eq_getElem (by omega)]
      rfl
    have gn : ∀ k, hs.length ≤ k → (L.map fun x => x.2.drop hs.length).getD k [] = [] := fun k h => by
      rw [List.getD_eq_getElem?_getD, List.getElem?_eq_none (by rw [List.length_map, Ll]; exact h)]
      rfl
    have dv : ∀ k (h : k < hs.length) n, vec ((L[k]'(by omega)).2.drop hs.length) n = vec (L[k]'(by omega)).2 (hs.length + n) := fun k h n => by
      show List.getD _ n 0 = List.getD _ _ 0
      rw [List.getD_eq_getElem?_getD, List.getD_eq_getElem?_getD, List.getElem?_drop]
    show vec (List.getD _ i []) j = vec (List.getD _ j []) i
    by_cases hi : i < hs.length
    · by_cases hj : j < hs.length
      · rw [gd i hi, gd j hj, dv i hi, dv j hj]
        have li : Lot p (spn (ss.map flatR)) (rsV hs (vec (L[i]'(by omega)).2)) := sd_back (fun r hr => (g.fit r hr).2) ((pl.lot _).mp (.of ⟨_, List.mem_map.mpr ⟨_, mem i hi, rfl⟩, rfl⟩))
        have lj : Lot p (spn (ss.map flatR)) (rsV hs (vec (L[j]'(by omega)).2)) := sd_back (fun r hr => (g.fit r hr).2) ((pl.lot _).mp (.of ⟨_, List.mem_map.mpr ⟨_, mem j hj, rfl⟩, rfl⟩))
        have fa := lot_fairV g li lj
        rw [fair_sd (hs := hs)] at fa
        have unitv : ∀ a (h : a < hs.length) k, k < hs.length → vec (L[a]'(by omega)).2 k = if k = a then 1 else 0 := fun a h k hk => by
          have e : vec ((L[a]'(by omega)).2.take hs.length) k = vec (L[a]'(by omega)).2 k := by
            show (List.take hs.length _).getD k 0 = List.getD _ k 0
            rw [List.getD_eq_getElem?_getD, List.getD_eq_getElem?_getD, List.getElem?_take, if_pos hk]
          rw [← e, tk a h, unit_at]
          by_cases z : k = a
          · rw [if_pos ⟨z, hk⟩, if_pos z]
          · rw [if_neg (fun w => z w.1), if_neg z]
        have e1 : ((List.range hs.length).map fun k => sdV hs (rsV hs (vec (L[i]'(by omega)).2)) k * sdV hs (rsV hs (vec (L[j]'(by omega)).2)) (hs.length + k) - sdV hs (rsV hs (vec (L[j]'(by omega)).2)) k * sdV hs (rsV hs (vec (L[i]'(by omega)).2)) (hs.length + k)) = (List.range hs.length).map fun k => (vec (unitL hs.length i) k) * vec (L[j]'(by omega)).2 (hs.length + k) - vec (unitL hs.length j) k * vec (L[i]'(by omega)).2 (hs.length + k) := by
          apply List.map_congr_left
          intro k hk
          have hk' := List.mem_range.mp hk
          have ui : vec (unitL hs.length i) k = vec (L[i]'(by omega)).2 k := by
            rw [unitv i hi k hk', unit_at]
            by_cases z : k = i
            · rw [if_pos ⟨z, hk'⟩, if_pos z]
            · rw [if_neg (fun w => z w.1), if_neg z]
          have uj : vec (unitL hs.length j) k = vec (L[j]'(by omega)).2 k := by
            rw [unitv j hj k hk', unit_at]
            by_cases z : k = j
            · rw [if_pos ⟨z, hk'⟩, if_pos z]
            · rw [if_neg (fun w => z w.1), if_neg z]
          rw [sd_rs (by omega), sd_rs (by omega), sd_rs (by omega), sd_rs (by omega), ui, uj]
        rw [e1, sum_sub, dot_unit (v := fun k => vec (L[j]'(by omega)).2 (hs.length + k)) hi, dot_unit (v := fun k => vec (L[i]'(by omega)).2 (hs.length + k)) hj] at fa
        refine cg_eq (Rg.vec p0 (pl.rg _ (mem i hi)) _) (Rg.vec p0 (pl.rg _ (mem j hj)) _) ?_
        obtain ⟨x, hx⟩ := fa
        exact ⟨-x, by rw [Int.mul_neg]; omega⟩
      · rw [gd i hi, gn j (by omega), dv i hi, vec_out (by rw [len2 i hi]; omega)]
        rfl
    · rw [gn i (by omega)]
      by_cases hj : j < hs.length
      · rw [gd j hj, dv j hj, vec_out (us := (L[j]'(by omega)).2) (by rw [len2 j hj]; omega)]
        rfl
      · rw [gn j (by omega)]
        rfl
  · rw [List.getElem?_eq_getElem (by omega)]
    have gd : (L.map fun x => x.2.drop hs.length).getD i [] = (L[i]'(by omega)).2.drop hs.length := by
      rw [List.getD_eq_getElem?_getD, List.getElem?_map, List.getElem?_eq_getElem (by omega)]
      rfl
    rw [gd, ← tk i h, List.take_append_drop]
    have := at1 i h
    exact congrArg some (Prod.ext this rfl)
  · have gs' : ∃ gs, gs = L.map fun x => x.2.drop hs.length := ⟨_, rfl⟩
    obtain ⟨gs, eg⟩ := gs'
    rw [← eg]
    have gl : gs.length = hs.length := by rw [eg, List.length_map, Ll]
    have gok : ∀ g ∈ gs, g.length = hs.length ∧ Rg p g := fun g hg => by
      rw [eg] at hg
      obtain ⟨x, hx, rfl⟩ := List.mem_map.mp hg
      exact ⟨by rw [List.length_drop, pl.len x hx]; omega, fun u hu => pl.rg x hx u (List.mem_of_mem_drop hu)⟩
    have eu : (unitsP p hs gs).map (sdP p hs) = L.map (·.2) := by
      refine List.ext_getElem (by rw [List.length_map, List.length_map, units_len, Ll]) fun i h1 h2 => ?_
      have hi : i < hs.length := by rw [List.length_map, units_len] at h1; exact h1
      rw [List.getElem_map, List.getElem_map]
      have e1 : (unitsP p hs gs)[i]'(by rw [units_len]; exact hi) = stP p hs gs (unitL hs.length i) := by
        have := units_get (p := p) (gs := gs) hi
        rw [List.getElem?_eq_getElem (by rw [units_len]; exact hi)] at this
        exact Option.some.inj this
      have e2 : gs[i]? = some ((L[i]'(by omega)).2.drop hs.length) := by
        have hiL : i < L.length := by rw [Ll]; exact hi
        have : (L.map fun x => x.2.drop hs.length)[i]? = some ((L[i]'hiL).2.drop hs.length) := by
          rw [List.getElem?_map, List.getElem?_eq_getElem hiL]
          rfl
        rw [← eg] at this
        exact this
      have ok := gok _ (List.mem_of_getElem? e2)
      rw [e1, sd_st p0 unit_len, told_unit hi e2 ok.1 ok.2 p0, ← tk i hi, List.take_append_drop]
    refine span_of_sd (fun r hr => (g.fit r hr).2) (fun r hr => (units_fit p1 r hr).2) fun w => ?_
    rw [eu, ← pl.lot w]
    refine Lot.iff (fun v hv => ?_) (fun v hv => ?_) w
    · obtain ⟨x, hx, rfl⟩ := hv
      obtain ⟨y, hy, rfl⟩ := mem_vecs.mp hx
      exact .of ⟨y.2, List.mem_map.mpr ⟨y, hy, rfl⟩, rfl⟩
    · obtain ⟨f, hf, rfl⟩ := hv
      obtain ⟨y, hy, rfl⟩ := List.mem_map.mp hf
      exact .of ⟨(y.1, vec y.2), mem_vecs.mpr ⟨y, hy, rfl⟩, rfl⟩
end Lin
/-! what is still, mending -/
namespace Lin
def Stl (p : Int) (hs : List Int) (ss : List RowP) (u : Vc) : Prop := Lot p (spn (ss.map flatR)) u ∧ ∀ k, k < hs.length → Cg p (u (plc hs k)) 0
/-- the leads that begin behind the held sides span what is still, by sides -/
theorem own_filter {p : Int} {n : Nat} {w : Vc} : ∀ {L : List (Nat × List Int)}, (∀ x ∈ L, x.1 < n → Cg p (w x.1) 0) → Eqv p (own w (vecs L)) (own w (vecs (L.filter fun x => decide (n ≤ x.1))))
  | [], _ => fun _ => Cg.rfl'
  | x :: L, h => fun i => by
    have ih := own_filter (L := L) (fun y hy => h y (List.mem_cons_of_mem _ hy)) i
    by_cases hx : n ≤ x.1
    · rw [List.filter_cons_of_pos (by simpa using hx)]
      exact (Cg.rfl' (a := w x.1 * vec x.2 i)).add ih
    · rw [List.filter_cons_of_neg (by simpa using hx)]
      have z := (h x (by simp) (by omega)).mul (Cg.rfl' (p := p) (a := vec x.2 i))
      rw [Int.zero_mul] at z
      have a := z.add ih
      rw [Int.zero_add] at a
      exact a
theorem stl_iff {p : Int} {hs : List Int} {ss : List RowP} {L : List (Nat × List Int)} (l : ∀ r ∈ ss, r.length = hs.length) (pl : PL p (2 * hs.length) (ss.map (sdP p hs)) L) {zs : List RowP} (hz : ∀ r ∈ zs, r.length = hs.length) (ez : ∀ v, spn (zs.map flatR) v ↔ ∃ x ∈ L, hs.length ≤ x.1 ∧ ∃ r ∈ zs, v = vec (flatR r) ∧ Eqv p (vec (flatR r)) (rsV hs (vec x.2))) (ez2 : ∀ x ∈ L, hs.length ≤ x.1 → ∃ r ∈ zs, Eqv p (vec (flatR r)) (rsV hs (vec x.2))) (u : Vc) : Lot p (spn (zs.map flatR)) u ↔ Stl p hs ss u := by
  have still : ∀ x ∈ L, hs.length ≤ x.1 → Stl p hs ss (rsV hs (vec x.2)) := fun x hx hn => by
    have mx : (x.1, vec x.2) ∈ vecs L := List.mem_map.mpr ⟨x, hx, rfl⟩
    refine ⟨sd_back l ((pl.lot _).mp (.of ⟨_, mx, rfl⟩)), fun k hk => ?_⟩
    rw [← sd_plc (v := rsV hs (vec x.2)) hk, sd_rs (by omega)]
    exact pl.ahead _ mx k (by show k < x.1; omega)
  constructor
  · intro h
    refine ⟨Lot.sub (fun v hv => ?_) h, fun k hk => h.at0 fun v hv => ?_⟩
    · obtain ⟨x, hx, hn, r, _, rfl, e⟩ := (ez v).mp hv
      exact .eqv (still x hx hn).1 e.symm
    · obtain ⟨x, hx, hn, r, _, rfl, e⟩ := (ez v).mp hv
      exact (e _).trans ((still x hx hn).2 k hk)
  · rintro ⟨lu, z⟩
    have lw := (pl.lot _).mpr (sd_fwd l lu)
    have e := (lot_iff pl.leads pl.ndv).mp lw
    have o := own_filter (p := p) (n := hs.length) (w := sdV hs u) (L := L) fun x hx hn => by
      rw [sd_plc hn]
      exact z _ hn
    have lo : Lot p (rowsOf (vecs (L.filter fun x => decide (hs.length ≤ x.1)))) (sdV hs u) := .eqv (own_lot _ fun x hx => ⟨x, hx, rfl⟩) (o.symm.trans e)
    have lr : Lot p (spn (zs.map flatR)) (rsV hs (sdV hs u)) := lot_rs lo fun v hv => by
      obtain ⟨y, hy, rfl⟩ := hv
      obtain ⟨x, hx, rfl⟩ := mem_vecs.mp hy
      have hx' := List.mem_filter.mp hx
      obtain ⟨r, hr, er⟩ := ez2 x hx'.1 (of_decide_eq_true hx'.2)
      exact .eqv (.of ⟨flatR r, List.mem_map.mpr ⟨r, hr, rfl⟩, rfl⟩) er
    exact .eqv lr (rs_sd_eqv l lu)
/-- the hold with the other side at the posts told -/
def flipL (hs : List Int) (ps : List Nat) : List Int := (List.range hs.length).map fun k => if k ∈ ps then 1 - vec hs k else vec hs k
theorem flip_len {hs : List Int} {ps : List Nat} : (flipL hs ps).length = hs.length := by
  unfold flipL
  rw [List.length_map, List.length_range]
theorem flip_at {hs : List Int} {ps : List Nat} {k : Nat} (h : k < hs.length) : vec (flipL hs ps) k = if k ∈ ps then 1 - vec hs k else vec hs k := by
  refine vec_some ?_
  unfold flipL
  rw [List.getElem?_map, List.getElem?_range h]
  rfl
def Bits (hs : List Int) : Prop := ∀ h ∈ hs, h = 0 ∨ h = 1
theorem Bits.at {hs : List Int} (b : Bits hs) (k : Nat) : vec hs k = 0 ∨ vec hs k = 1 := by
  cases e : hs[k]? with
  | none =>
    left
    show hs.getD k 0 = 0
    rw [List.getD_eq_getElem?_getD, e]
    rfl
  | some x =>
    rw [vec_some e]
    exact b x (List.mem_of_getElem? e)
theorem flip_bits {hs : List Int} {ps : List Nat} (b : Bits hs) : Bits (flipL hs ps) := fun h hh => by
  obtain ⟨k, _, rfl⟩ := List.mem_map.mp hh
  have := b.at k
  split <;> omega
/-- the place read at a post -/
def rdp (hs : List Int) (k : Nat) : Nat := if vec hs k = 0 then 2 * k + 1 else 2 * k
theorem plc_flip {hs : List Int} {ps : List Nat} {k : Nat} (b : Bits hs) (h : k < hs.length) : plc (flipL hs ps) k = if k ∈ ps then rdp hs k else plc hs k := by
  have hb := b.at k
  unfold plc rdp
  rw [flip_at h]
  by_cases m : k ∈ ps
  · rw [if_pos m, if_pos m]
    rcases hb with e | e
    · rw [e, if_neg (by decide), if_pos rfl]
    · rw [e, if_pos (by decide), if_neg (by decide)]
  · rw [if_neg m, if_neg m]
theorem place_two {hs : List Int} {q : Nat} : q = plc hs (q / 2) ∨ q = rdp hs (q / 2) := by
  unfold plc rdp
  split <;> omega
theorem sd_read {hs : List Int} {v : Vc} {k : Nat} (h : k < hs.length) : sdV hs v (hs.length + k) = (if vec hs k = 0 then 1 else -1) * v (rdp hs k) := by
  unfold sdV rdp
  rw [if_neg (by omega), if_pos (by omega), Nat.add_sub_cancel_left]
  split <;> omega
structure Mend (p : Int) (hs : List Int) (ss : List RowP) (M : List (Nat × List Int)) (zs : List RowP) : Prop where
  pl : PL p (2 * hs.length) (zs.map flatR) M
  lot : ∀ u, Lot p (spn (zs.map flatR)) u ↔ Stl p hs ss u
theorem Mend.row {p : Int} {hs : List Int} {ss zs : List RowP} {M : List (Nat × List Int)} (h : Mend p hs ss M zs) {x : Nat × List Int} (hx : x ∈ M) : Stl p hs ss (vec x.2) := (h.lot _).mp ((h.pl.lot _).mp (.of ⟨_, mem_vecs.mpr ⟨x, hx, rfl⟩, rfl⟩))
theorem Mend.read {p : Int} {hs : List Int} {ss zs : List RowP} {M : List (Nat × List Int)} (p1 : 1 < p) (h : Mend p hs ss M zs) {x : Nat × List Int} (hx : x ∈ M) : x.1 / 2 < hs.length ∧ x.1 = rdp hs (x.1 / 2) := by
  have pb := h.pl.plc x hx
  have hk : x.1 / 2 < hs.length := by omega
  refine ⟨hk, ?_⟩
  rcases place_two (hs := hs) (q := x.1) with e | e
  · exfalso
    have z := (h.row hx).2 _ hk
    rw [← e] at z
    exact one_zero p1 ((h.pl.leads.self _ (mem_vecs.mpr ⟨x, hx, rfl⟩)).symm.trans z)
  · exact e
theorem mend_std {p : Int} {hs : List Int} {ss zs : List RowP} {M : List (Nat × List Int)} (p1 : 1 < p) (b : Bits hs) (g : Lag p hs.length ss) (h : Mend p hs ss M zs) : Std p (flipL hs (M.map fun x => x.1 / 2)) ss := by
  intro v lv z
  rw [flip_len] at z
  have rp : ∀ x ∈ M, Cg p (v x.1) 0 := fun x hx => by
    obtain ⟨hk, e⟩ := h.read p1 hx
    have := z _ hk
    rw [plc_flip b hk, if_pos (List.mem_map.mpr ⟨x, hx, rfl⟩), ← e] at this
    exact this
  have held : ∀ k, k < hs.length → Cg p (v (plc hs k)) 0 := fun k hk => by
    by_cases m : k ∈ M.map fun x => x.1 / 2
    · obtain ⟨x, hx, rfl⟩ := List.mem_map.mp m
      obtain ⟨_, e⟩ := h.read p1 hx
      have st := h.row hx
      have fa := lot_fairV g lv st.1
      rw [fair_sd (hs := hs)] at fa
      have one := sum_one (p := p) (j := x.1 / 2) (f := fun k => sdV hs v k * sdV hs (vec x.2) (hs.length + k) - sdV hs (vec x.2) k * sdV hs v (hs.length + k)) hs.length hk fun k hk' ne => by
        have z2 : Cg p (sdV hs (vec x.2) k) 0 := by
          rw [sd_plc hk']
          exact st.2 k hk'
        have b2 := z2.mul (Cg.rfl' (p := p) (a := sdV hs v (hs.length + k)))
        rw [Int.zero_mul] at b2
        have a2 : Cg p (sdV hs v k * sdV hs (vec x.2) (hs.length + k)) 0 := by
          by_cases mk : k ∈ M.map fun x => x.1 / 2
          · obtain ⟨y, hy, ek⟩ := List.mem_map.mp mk
            obtain ⟨_, ey⟩ := h.read p1 hy
            have n2 : x.1 ≠ y.1 := fun q => ne (by rw [← ek, ← q])
            have o := h.pl.leads.other _ (mem_vecs.mpr ⟨x, hx, rfl⟩) _ (mem_vecs.mpr ⟨y, hy, rfl⟩) n2
            have o' : Cg p (vec x.2 y.1) 0 := o
            rw [sd_read hk']
            have ek' : rdp hs k = y.1 := by rw [← ek]; exact ey.symm
            rw [ek']
            have c := (Cg.rfl' (p := p) (a := sdV hs v k * if vec hs k = 0 then 1 else -1)).mul o'
            rw [Int.mul_zero, Int.mul_assoc] at c
            exact c
          · have zk := z k hk'
            rw [plc_flip b hk', if_neg mk, ← sd_plc (v := v) hk'] at zk
            have c := zk.mul (Cg.rfl' (p := p) (a := sdV hs (vec x.2) (hs.length + k)))
            rw [Int.zero_mul] at c
            exact c
        have c := a2.sub b2
        exact c
      have t := one.symm.trans fa
      have z2 : Cg p (sdV hs (vec x.2) (x.1 / 2)) 0 := by
        rw [sd_plc hk]
        exact st.2 _ hk
      have b2 := z2.mul (Cg.rfl' (p := p) (a := sdV hs v (hs.length + x.1 / 2)))
      rw [Int.zero_mul] at b2
      have t2 := t.add b2
      have e3 : ∀ a b : Int, a - b + b = a := fun a b => by omega
      have t3 : Cg p (sdV hs v (x.1 / 2) * sdV hs (vec x.2) (hs.length + x.1 / 2)) 0 := by
        have : Cg p ((sdV hs v (x.1 / 2) * sdV hs (vec x.2) (hs.length + x.1 / 2) - sdV hs (vec x.2) (x.1 / 2) * sdV hs v (hs.length + x.1 / 2)) + sdV hs (vec x.2) (x.1 / 2) * sdV hs v (hs.length + x.1 / 2)) (0 + 0) := t2
        rw [e3] at this
        exact this
      rw [sd_plc hk, sd_read hk, ← e] at t3
      have s1 : Cg p (vec x.2 x.1) 1 := h.pl.leads.self _ (mem_vecs.mpr ⟨x, hx, rfl⟩)
      have t4 := ((Cg.rfl' (p := p) (a := v (plc hs (x.1 / 2)) * if vec hs (x.1 / 2) = 0 then 1 else -1)).mul s1).symm
      rw [Int.mul_one, Int.mul_assoc] at t4
      have t5 := t4.trans t3
      by_cases zz : vec hs (x.1 / 2) = 0
      · rw [if_pos zz, Int.mul_one] at t5
        exact t5
      · rw [if_neg zz] at t5
        obtain ⟨c, hc⟩ := t5
        exact ⟨-c, by rw [Int.mul_neg]; omega⟩
    · have := z k hk
      rw [plc_flip b hk, if_neg m] at this
      exact this
  have lz := (h.pl.lot _).mpr ((h.lot v).mpr ⟨lv, held⟩)
  have e := (lot_iff h.pl.leads h.pl.ndv).mp lz
  exact e.symm.trans (own_none fun x hx => by
    obtain ⟨y, hy, rfl⟩ := mem_vecs.mp hx
    exact rp y hy)
theorem mend_nil {p : Int} {hs : List Int} {ss zs : List RowP} {M : List (Nat × List Int)} (p1 : 1 < p) (h : Mend p hs ss M zs) : M = [] ↔ Std p hs ss := by
  constructor
  · rintro e u lu z
    have lz := (h.pl.lot _).mpr ((h.lot u).mpr ⟨lu, z⟩)
    rw [e] at lz
    exact fun i => lz.at0 fun v hv => by
      obtain ⟨x, hx, _⟩ := hv
      cases hx
  · intro st
    match M, h with
    | [], _ => rfl
    | x :: M, h =>
      exfalso
      have r := h.row (x := x) (by simp)
      have z := st _ r.1 r.2 x.1
      exact one_zero p1 ((h.pl.leads.self _ (mem_vecs.mpr ⟨x, by simp, rfl⟩)).symm.trans z)
theorem mend_nd {p : Int} {hs : List Int} {ss zs : List RowP} {M : List (Nat × List Int)} (p1 : 1 < p) (h : Mend p hs ss M zs) (up : Up M) : (M.map fun x => x.1 / 2).Pairwise (· < ·) := by
  have up' : (M.map (·.1)).Pairwise (· < ·) := up
  rw [List.pairwise_map] at up' ⊢
  refine up'.imp_of_mem fun {x y} hx hy lt => ?_
  obtain ⟨_, ex⟩ := h.read p1 hx
  obtain ⟨_, ey⟩ := h.read p1 hy
  rcases Nat.lt_or_ge (x.1 / 2) (y.1 / 2) with k | k
  · exact k
  · exfalso
    have e : x.1 / 2 = y.1 / 2 := by omega
    rw [e] at ex
    omega
end Lin
set_option linter.all false
/-! all holds that stand, post by post -/
namespace Lin
def comb (a : List Int) (rs : List RowP) (q : Nat) : Int := (List.zipWith (fun c r => c * vec (flatR r) q) a rs).sum
theorem comb_app {a b : List Int} {rs ss : List RowP} {q : Nat} (h : a.length = rs.length) : comb (a ++ b) (rs ++ ss) q = comb a rs q + comb b ss q := by
  unfold comb
  rw [List.zipWith_append h, List.sum_append]
theorem comb_cons {c : Int} {a : List Int} {r : RowP} {rs : List RowP} {q : Nat} : comb (c :: a) (r :: rs) q = c * vec (flatR r) q + comb a rs q := rfl
/-- by no numbers but 0 the rows come to 0 at all held sides -/
def StdC (p : Int) (hs : List Int) (rs : List RowP) : Prop := ∀ a : List Int, a.length = rs.length → (∀ k, k < hs.length → Cg p (comb a rs (plc hs k)) 0) → ∀ x ∈ a, Cg p x 0
/-- the place of a side at the first post -/
def q0 (s : Int) : Nat := if s = 0 then 0 else 1
theorem plc_zero {s : Int} {hs : List Int} : plc (s :: hs) 0 = q0 s := by
  unfold plc q0
  rw [vec_zero]
theorem plc_succ {s : Int} {hs : List Int} {k : Nat} : plc (s :: hs) (k + 1) = plc hs k + 2 := by
  unfold plc
  rw [vec_succ]
  split <;> omega
theorem vec_tail {r : RowP} {j : Nat} : vec (flatR r.tail) j = vec (flatR r) (j + 2) := by
  cases r with
  | nil => rfl
  | cons u r => rfl
/-- a row cleared at a side of the first post by another one, without that post -/
def clr (p : Int) (s c : Int) (u o : RowP) : RowP := (addP p o (timP p (c * vec (flatR o) (q0 s)) u)).tail
theorem clr_vec {p s c : Int} {u o : RowP} (l : o.length = u.length) (j : Nat) : Cg p (vec (flatR (clr p s c u o)) j) (vec (flatR o) (j + 2) + c * vec (flatR o) (q0 s) * vec (flatR u) (j + 2)) := by
  unfold clr
  rw [vec_tail]
  exact (vec_addP (by rw [tim_lenP]; exact l) _).trans (Cg.rfl'.add (vec_timP _))
theorem comb_clr {p s c : Int} {u : RowP} {j : Nat} : ∀ {a : List Int} {os : List RowP}, a.length = os.length → (∀ o ∈ os, o.length = u.length) → Cg p (comb a (os.map (clr p s c u)) j) (comb a os (j + 2) + c * comb a os (q0 s) * vec (flatR u) (j + 2))
  | [], [], _, _ => by
    unfold comb
    exact ⟨0, by simp⟩
  | [], _ :: _, h, _ => by simp at h
  | _ :: _, [], h, _ => by simp at h
  | x :: a, o :: os, h, l => by
    have ih := comb_clr (p := p) (s := s) (c := c) (u := u) (j := j) (a := a) (os := os) (by simpa using h) fun o ho => l o (List.mem_cons_of_mem _ ho)
    rw [List.map_cons, comb_cons, comb_cons, comb_cons]
    have e := ((Cg.rfl' (p := p) (a := x)).mul (clr_vec (p := p) (s := s) (c := c) (l o (by simp)) j)).add ih
    refine e.trans ?_
    exact ⟨0, by grind⟩
theorem std_step {p s c : Int} {hs : List Int} {pre post : List RowP} {u : RowP} (p1 : 1 < p) (hc : Cg p (c * vec (flatR u) (q0 s)) (-1)) (l1 : ∀ o ∈ pre, o.length = u.length) (l2 : ∀ o ∈ post, o.length = u.length) : StdC p (s :: hs) (pre ++ u :: post) ↔ StdC p hs ((pre ++ post).map (clr p s c u)) := by
  have la : ∀ o ∈ pre ++ post, o.length = u.length := fun o ho => (List.mem_append.mp ho).elim (l1 o) (l2 o)
  constructor
  · intro st b bl z
    rw [List.length_map] at bl
    -- the number of the row that goes
    have key := st (b.take pre.length ++ (c * comb b (pre ++ post) (q0 s)) :: b.drop pre.length) (by
      rw [List.length_append] at bl
      rw [List.length_append, List.length_cons, List.length_take, List.length_drop, List.length_append, List.length_cons]
      omega)
    have bt : (b.take pre.length).length = pre.length := by
      rw [List.length_append] at bl
      rw [List.length_take]
      omega
    have spl : ∀ q, comb (b.take pre.length ++ (c * comb b (pre ++ post) (q0 s)) :: b.drop pre.length) (pre ++ u :: post) q = comb b (pre ++ post) q + c * comb b (pre ++ post) (q0 s) * vec (flatR u) q := fun q => by
      rw [comb_app bt, comb_cons]
      have e : comb b (pre ++ post) q = comb (b.take pre.length) pre q + comb (b.drop pre.length) post q := by
        rw [← comb_app bt, List.take_append_drop]
      rw [e]
      omega
    have all := key fun k hk => by
      rw [spl]
      cases k with
      | zero =>
        rw [plc_zero]
        have e := (Cg.rfl' (p := p) (a := comb b (pre ++ post) (q0 s))).add ((Cg.rfl' (p := p) (a := comb b (pre ++ post) (q0 s))).mul hc)
        have e1 : comb b (pre ++ post) (q0 s) + c * comb b (pre ++ post) (q0 s) * vec (flatR u) (q0 s) = comb b (pre ++ post) (q0 s) + comb b (pre ++ post) (q0 s) * (c * vec (flatR u) (q0 s)) := by grind
        rw [e1]
        refine e.trans ⟨0, by grind⟩
      | succ k =>
        rw [plc_succ]
        exact (comb_clr bl la).symm.trans (z k (by simpa using hk))
    intro x hx
    refine all x ?_
    rw [← List.take_append_drop pre.length b] at hx
    rcases List.mem_append.mp hx with m | m
    · exact List.mem_append.mpr (.inl m)
    · exact List.mem_append.mpr (.inr (List.mem_cons_of_mem _ m))
  · intro st a al z
    rw [List.length_append, List.length_cons] at al
    have at1 : (a.take pre.length).length = pre.length := by rw [List.length_take]; omega
    obtain ⟨x, a2, ed⟩ : ∃ x a2, a.drop pre.length = x :: a2 := by
      cases e : a.drop pre.length with
      | nil =>
        have := congrArg List.length e
        rw [List.length_drop, List.length_nil] at this
        omega
      | cons x a2 => exact ⟨x, a2, rfl⟩
    have a2l : a2.length = post.length := by
      have := congrArg List.length ed
      rw [List.length_drop, List.length_cons] at this
      omega
    have ea : a = a.take pre.length ++ x :: a2 := by rw [← ed, List.take_append_drop]
    have spl : ∀ q, comb a (pre ++ u :: post) q = comb (a.take pre.length ++ a2) (pre ++ post) q + x * vec (flatR u) q := fun q => by
      rw [ea, comb_app at1, comb_cons, ← ea, comb_app at1]
      omega
    have h0 : Cg p (comb (a.take pre.length ++ a2) (pre ++ post) (q0 s) + x * vec (flatR u) (q0 s)) 0 := by
      have := z 0 (by simp)
      rw [plc_zero, spl] at this
      exact this
    -- x by the others
    have hx : Cg p x (c * comb (a.take pre.length ++ a2) (pre ++ post) (q0 s)) := by
      obtain ⟨d, hd⟩ := h0
      obtain ⟨e, he⟩ := hc
      exact ⟨-c * d + x * e, by grind⟩
    have bl : (a.take pre.length ++ a2).length = (pre ++ post).length := by rw [List.length_append, List.length_append, at1, a2l]
    have sm := st (a.take pre.length ++ a2) (by rw [List.length_map]; exact bl) fun k hk => by
      refine (comb_clr bl la).trans ?_
      have zk := z (k + 1) (by simpa using hk)
      rw [plc_succ, spl] at zk
      refine Cg.trans ?_ zk
      exact Cg.rfl'.add (hx.symm.mul Cg.rfl')
    have cz : Cg p (comb (a.take pre.length ++ a2) (pre ++ post) (q0 s)) 0 := by
      have : ∀ {b : List Int} {os : List RowP}, (∀ x ∈ b, Cg p x 0) → Cg p (comb b os (q0 s)) 0 := fun {b} => by
        induction b with
        | nil => intro os _; unfold comb; exact ⟨0, by simp⟩
        | cons y b ih =>
          intro os hb
          cases os with
          | nil => unfold comb; exact ⟨0, by simp⟩
          | cons o os =>
            rw [comb_cons]
            have e := ((hb y (by simp)).mul (Cg.rfl' (a := vec (flatR o) (q0 s)))).add (ih (os := os) fun x hx => hb x (List.mem_cons_of_mem _ hx))
            rw [Int.zero_mul, Int.zero_add] at e
            exact e
      exact this sm
    intro y hy
    rw [ea] at hy
    rcases List.mem_append.mp hy with m | m
    · exact sm y (List.mem_append.mpr (.inl m))
    · rcases List.mem_cons.mp m with rfl | m
      · have e := hx.trans ((Cg.rfl' (a := c)).mul cz)
        rw [Int.mul_zero] at e
        exact e
      · exact sm y (List.mem_append.mpr (.inr m))
/-! -/
theorem below_lenV : ∀ (n : Nat) (xs : List Nat), xs.Nodup → (∀ x ∈ xs, x < n) → xs.length ≤ n
  | 0, [], _, _ => Nat.le_refl _
  | 0, x :: _, _, h => absurd (h x (by simp)) (Nat.not_lt_zero _)
  | n + 1, xs, nd, h => by
    have k := below_lenV n (xs.erase n) (nd.erase n) fun x hx => by
      have m := (nd.mem_erase_iff).mp hx
      have := h x m.2
      omega
    by_cases hn : n ∈ xs
    · rw [List.length_erase_of_mem hn] at k
      omega
    · rw [List.erase_of_not_mem hn] at k
      omega
/-- more rows than held sides: some numbers come to 0 -/
theorem not_free {p : Int} : ∀ (ys xs : List (List Int)), ¬ FreeOver p xs ys → ∃ (b : List Int), b.length = (xs ++ ys).length ∧ (∃ x ∈ b, Cg p x 1) ∧ ∀ j, Cg p (List.zipWith (fun c f => c * vec f j) b (xs ++ ys)).sum 0
  | [], _, h => absurd trivial h
  | y :: ys, xs, h => by
    by_cases hy : Lot p (spn xs) (vec y)
    · obtain ⟨a, ha⟩ := lot_coef hy
      refine ⟨((List.range xs.length).map fun i => -a i) ++ 1 :: List.replicate ys.length 0, by simp, ⟨1, by simp, Cg.rfl'⟩, fun j => ?_⟩
      have z0 : ∀ (n : Nat) (fs : List (List Int)), (List.zipWith (fun c f => c * vec f j) (List.replicate n 0) fs).sum = 0 := fun n => by
        induction n with
        | zero => intro fs; simp
        | succ n ih =>
          intro fs
          cases fs with
          | nil => simp
          | cons f fs =>
            rw [List.replicate_succ]
            show 0 * vec f j + (List.zipWith (fun c f => c * vec f j) (List.replicate n 0) fs).sum = 0
            rw [ih fs]
            omega
      have z1 : ∀ (fs : List (List Int)) (a : Vc), (List.zipWith (fun c f => c * vec f j) ((List.range fs.length).map fun i => -a i) fs).sum = -dot a (col fs j) fs.length := fun fs => by
        induction fs with
        | nil => intro a; rfl
        | cons f fs ih =>
          intro a
          rw [List.length_cons, List.range_succ_eq_map, List.map_cons, List.map_map]
          show -a 0 * vec f j + (List.zipWith _ ((List.range fs.length).map fun i => -(shf a) i) fs).sum = -(a 0 * col (f :: fs) j 0 + dot (shf a) (shf (col (f :: fs) j)) fs.length)
          rw [ih, shf_col]
          have : col (f :: fs) j 0 = vec f j := rfl
          rw [this]
          grind
      rw [List.zipWith_append (by simp), List.sum_append, z1]
      show Cg p (-dot a (col xs j) xs.length + (1 * vec y j + (List.zipWith _ (List.replicate ys.length 0) ys).sum)) 0
      rw [z0]
      obtain ⟨d, hd⟩ := ha j
      exact ⟨d, by rw [hd]; grind⟩
    · have h' : ¬ FreeOver p (xs ++ [y]) ys := fun k => h ⟨hy, k⟩
      obtain ⟨b, h1, h2, h3⟩ := not_free ys (xs ++ [y]) h'
      have e : xs ++ [y] ++ ys = xs ++ y :: ys := by simp
      rw [e] at h1 h3
      exact ⟨b, h1, h2, h3⟩
theorem std_none {p s : Int} {hs : List Int} {rs : List RowP} (p1 : 1 < p) (inv : ∀ u, 0 < u → u < p → ∃ c, c * u % p = 1) (len : hs.length < rs.length) (z : ∀ r ∈ rs, Cg p (vec (flatR r) (q0 s)) 0) : ¬ StdC p (s :: hs) rs := by
  intro st
  have p0 : 0 < p := by omega
  -- the rows' numbers at the other held sides
  have hf : ∀ f ∈ rs.map (fun r => (List.range hs.length).map fun k => vec (flatR r) (plc (s :: hs) (k + 1)) % p), f.length = hs.length ∧ Rg p f := fun f hf => by
    obtain ⟨r, _, rfl⟩ := List.mem_map.mp hf
    refine ⟨by simp, fun u hu => ?_⟩
    obtain ⟨k, _, rfl⟩ := List.mem_map.mp hu
    exact ⟨Int.emod_nonneg _ (by omega), Int.emod_lt_of_pos _ p0⟩
  have nf : ¬ FreeOver p [] (rs.map (fun r => (List.range hs.length).map fun k => vec (flatR r) (plc (s :: hs) (k + 1)) % p)) := fun k => by
    obtain ⟨M, pm, ml⟩ := FreeOver.pl p1 inv (PL.nil (p := p) (n := hs.length)) k hf
    have : M.length ≤ hs.length := by
      have k := below_lenV hs.length (M.map (·.1)) pm.nd fun x hx => by
        obtain ⟨y, hy, rfl⟩ := List.mem_map.mp hx
        exact pm.plc y hy
      simpa using k
    rw [ml, List.length_map, List.length_nil] at this
    omega
  obtain ⟨b, bl, ⟨x, hx, x1⟩, hz⟩ := not_free _ _ nf
  rw [List.nil_append] at bl hz
  rw [List.length_map] at bl
  refine one_zero p1 (x1.symm.trans (st b bl (fun k hk => ?_) x hx))
  cases k with
  | zero =>
    rw [plc_zero]
    have : ∀ {b : List Int} {os : List RowP}, (∀ r ∈ os, Cg p (vec (flatR r) (q0 s)) 0) → Cg p (comb b os (q0 s)) 0 := fun {b} => by
      induction b with
      | nil => intro os _; unfold comb; exact ⟨0, by simp⟩
      | cons y b ih =>
        intro os hb
        cases os with
        | nil => unfold comb; exact ⟨0, by simp⟩
        | cons o os =>
          rw [comb_cons]
          have e := ((Cg.rfl' (p := p) (a := y)).mul (hb o (by simp))).add (ih (os := os) fun x hx => hb x (List.mem_cons_of_mem _ hx))
          rw [Int.mul_zero, Int.zero_add] at e
          exact e
    exact this z
  | succ k =>
    have hk' : k < hs.length := by simpa using hk
    have := hz k
    refine Cg.trans ?_ this
    unfold comb
    have : ∀ (b : List Int) (os : List RowP), Cg p (List.zipWith (fun c r => c * vec (flatR r) (plc (s :: hs) (k + 1))) b os).sum (List.zipWith (fun c f => c * vec f k) b (os.map (fun r => (List.range hs.length).map fun k => vec (flatR r) (plc (s :: hs) (k + 1)) % p))).sum := fun b => by
      induction b with
      | nil => intro os; simp; exact Cg.rfl'
      | cons y b ih =>
        intro os
        cases os with
        | nil => simp; exact Cg.rfl'
        | cons o os =>
          have ev : vec ((List.range hs.length).map fun k => vec (flatR o) (plc (s :: hs) (k + 1)) % p) k = vec (flatR o) (plc (s :: hs) (k + 1)) % p := by
            refine vec_some ?_
            rw [List.getElem?_map, List.getElem?_range hk']
            rfl
          show Cg p (y * vec (flatR o) (plc (s :: hs) (k + 1)) + _) (y * vec _ k + _)
          rw [ev]
          exact (Cg.rfl'.mul (Cg.mod _).symm).add (ih os)
    exact this b rs
/-- a thing's holds: by numbers, by rows -/
theorem std_coef {p : Int} {hs : List Int} {ss : List RowP} (p1 : 1 < p) (inv : ∀ u, 0 < u → u < p → ∃ c, c * u % p = 1) (g : Lag p hs.length ss) : Std p hs ss ↔ StdC p hs ss := by
  have vc : ∀ (a : List Int) (rs : List RowP), a.length = rs.length → Lot p (spn (rs.map flatR)) (comb a rs) := fun a => by
    induction a with
    | nil =>
      intro rs h
      cases rs with
      | nil => exact .eqv .zero fun i => by unfold comb; exact Cg.rfl'
      | cons _ _ => simp at h
    | cons x a ih =>
      intro rs h
      cases rs with
      | nil => simp at h
      | cons r rs =>
        have i1 := ih rs (by simpa using h)
        have i2 : Lot p (spn ((r :: rs).map flatR)) (comb a rs) := Lot.sub (fun v hv => let ⟨f, hf, e⟩ := hv; .of ⟨f, List.mem_cons_of_mem _ hf, e⟩) i1
        refine .eqv (Lot.comb x i2 (.of ⟨flatR r, by simp, rfl⟩)) fun i => ?_
        rw [comb_cons]
        exact ⟨0, by grind⟩
  constructor
  · intro st a al z
    have u0 := st _ (vc a ss al) z
    -- free rows: from the last one on all numbers are 0
    have last : ∀ n, n ≤ ss.length → (∀ i x, n ≤ i → a[i]? = some x → Cg p x 0) := fun n => by
      intro hn
      induction h : ss.length - n generalizing n with
      | zero =>
        intro i x hi e
        have := (List.getElem?_eq_some_iff.mp e).1
        omega
      | succ d ih =>
        have up := ih (n + 1) (by omega) (by omega)
        intro i x hi e
        rcases Nat.lt_or_ge n i with k | k
        · exact up i x k e
        · have ei : i = n := by omega
          subst ei
          have hi' : i < ss.length := by omega
          obtain ⟨q, z1, nz⟩ := g.free i _ (List.getElem?_eq_getElem hi')
          -- at q
          have ha : i < a.length := by omega
          have es : a = a.take i ++ x :: a.drop (i + 1) := by
            have := (List.getElem?_eq_some_iff.mp e).2
            rw [← this, List.getElem_cons_drop, List.take_append_drop]
          have er : ss = ss.take i ++ ss[i] :: ss.drop (i + 1) := by
            rw [List.getElem_cons_drop, List.take_append_drop]
          have sum : comb a ss q = comb (a.take i) (ss.take i) q + (x * vec (flatR ss[i]) q + comb (a.drop (i + 1)) (ss.drop (i + 1)) q) := by
            have : comb (a.take i ++ x :: a.drop (i + 1)) (ss.take i ++ ss[i] :: ss.drop (i + 1)) q = comb (a.take i) (ss.take i) q + comb (x :: a.drop (i + 1)) (ss[i] :: ss.drop (i + 1)) q := comb_app (by rw [List.length_take, List.length_take, al])
            rw [← es, ← er] at this
            exact this
          have zc : ∀ {b : List Int} {os : List RowP}, (∀ r ∈ os, Cg p (vec (flatR r) q) 0) → Cg p (comb b os q) 0 := fun {b} => by
            induction b with
            | nil => intro os _; unfold comb; exact ⟨0, by simp⟩
            | cons y b ih =>
              intro os hb
              cases os with
              | nil => unfold comb; exact ⟨0, by simp⟩
              | cons o os =>
                rw [comb_cons]
                have e := ((Cg.rfl' (p := p) (a := y)).mul (hb o (by simp))).add (ih (os := os) fun x hx => hb x (List.mem_cons_of_mem _ hx))
                rw [Int.mul_zero, Int.zero_add] at e
                exact e
          have zb : ∀ {b : List Int} {os : List RowP}, (∀ x ∈ b, Cg p x 0) → Cg p (comb b os q) 0 := fun {b} => by
            induction b with
            | nil => intro os _; unfold comb; exact ⟨0, by simp⟩
            | cons y b ih =>
              intro os hb
              cases os with
              | nil => unfold comb; exact ⟨0, by simp⟩
              | cons o os =>
                rw [comb_cons]
                have e := ((hb y (by simp)).mul (Cg.rfl' (a := vec (flatR o) q))).add (ih (os := os) fun x hx => hb x (List.mem_cons_of_mem _ hx))
                rw [Int.zero_mul, Int.zero_add] at e
                exact e
          have t1 : Cg p (comb (a.take i) (ss.take i) q) 0 := zc z1
          have t2 : Cg p (comb (a.drop (i + 1)) (ss.drop (i + 1)) q) 0 := zb fun y hy => by
            obtain ⟨j, hj⟩ := List.mem_iff_getElem?.mp hy
            rw [List.getElem?_drop] at hj
            exact up _ y (by omega) hj
          have t3 : Cg p (x * vec (flatR ss[i]) q) 0 := by
            have := u0 q
            rw [sum] at this
            have w := (this.sub t1).sub t2
            have e1 : comb (a.take i) (ss.take i) q + (x * vec (flatR ss[i]) q + comb (a.drop (i + 1)) (ss.drop (i + 1)) q) - comb (a.take i) (ss.take i) q - comb (a.drop (i + 1)) (ss.drop (i + 1)) q = x * vec (flatR ss[i]) q := by omega
            rw [e1] at w
            exact w
          have a0 := Int.emod_nonneg (vec (flatR ss[i]) q) (b := p) (by omega)
          have a1 := Int.emod_lt_of_pos (vec (flatR ss[i]) q) (b := p) (by omega)
          have n0 : vec (flatR ss[i]) q % p ≠ 0 := fun e => nz (by
            have := Cg.mod (p := p) (vec (flatR ss[i]) q)
            rw [e] at this
            exact this.symm)
          obtain ⟨c, hc⟩ := inv _ (by omega) a1
          have hc' : c * vec (flatR ss[i]) q % p = 1 := by rw [← hc, Int.mul_emod, Int.mul_emod c (vec (flatR ss[i]) q % p), Int.emod_emod]
          exact cancel hc' (by rw [Int.zero_mul]; exact t3)
    intro x hx
    obtain ⟨i, hi⟩ := List.mem_iff_getElem?.mp hx
    exact last 0 (Nat.zero_le _) i x (Nat.zero_le _) hi
  · intro st u lu z
    obtain ⟨a, ha⟩ := lot_coef lu
    have cv : ∀ (rs : List RowP) (a : Vc) (q : Nat), comb ((List.range rs.length).map a) rs q = dot a (col (rs.map flatR) q) rs.length := fun rs => by
      induction rs with
      | nil => intro a q; rfl
      | cons r rs ih =>
        intro a q
        rw [List.length_cons, List.range_succ_eq_map, List.map_cons, List.map_map, comb_cons]
        show a 0 * vec (flatR r) q + comb ((List.range rs.length).map (shf a)) rs q = a 0 * col (flatR r :: rs.map flatR) q 0 + dot (shf a) (shf (col (flatR r :: rs.map flatR) q)) rs.length
        rw [ih, shf_col]
        rfl
    rw [List.length_map] at ha
    have all := st ((List.range ss.length).map a) (by simp) fun k hk => by
      rw [cv]
      exact (ha _).symm.trans (z k hk)
    intro j
    refine (ha j).trans ?_
    rw [← cv]
    have zb : ∀ {b : List Int} {os : List RowP}, (∀ x ∈ b, Cg p x 0) → Cg p (comb b os j) 0 := fun {b} => by
      induction b with
      | nil => intro os _; unfold comb; exact ⟨0, by simp⟩
      | cons y b ih =>
        intro os hb
        cases os with
        | nil => unfold comb; exact ⟨0, by simp⟩
        | cons o os =>
          rw [comb_cons]
          have e := ((hb y (by simp)).mul (Cg.rfl' (a := vec (flatR o) j))).add (ih (os := os) fun x hx => hb x (List.mem_cons_of_mem _ hx))
          rw [Int.zero_mul, Int.zero_add] at e
          exact e
    exact zb all
end Lin
set_option linter.all false
/-! from one hold that stands towards another: one post or two -/
namespace Lin
theorem Cg.neg0 {p a : Int} (h : Cg p a 0) : Cg p (-a) 0 := by
  obtain ⟨c, hc⟩ := h
  exact ⟨-c, by rw [hc]; grind⟩
theorem cancel0 {p a d : Int} (p1 : 1 < p) (inv : ∀ u, 0 < u → u < p → ∃ c, c * u % p = 1) (nz : ¬ Cg p d 0) (h : Cg p (a * d) 0) : Cg p a 0 := by
  have a0 := Int.emod_nonneg d (b := p) (by omega)
  have a1 := Int.emod_lt_of_pos d (b := p) (by omega)
  have n0 : d % p ≠ 0 := fun e => nz (by
    have := Cg.mod (p := p) d
    rw [e] at this
    exact this.symm)
  obtain ⟨c, hc⟩ := inv _ (by omega) a1
  exact cancel (c := c) (d := d) (b := 0) (by rw [← hc, Int.mul_emod, Int.mul_emod c (d % p), Int.emod_emod]) (by rw [Int.zero_mul]; exact h)
/-- by a hold that stands some stand has 1 held at a post, 0 at all others -/
theorem unit_of {p : Int} {hs : List Int} {ss : List RowP} (p1 : 1 < p) (inv : ∀ u, 0 < u → u < p → ∃ c, c * u % p = 1) (g : Lag p hs.length ss) (st : Std p hs ss) {k : Nat} (hk : k < hs.length) : ∃ u, Lot p (spn (ss.map flatR)) u ∧ ∀ j, j < hs.length → Cg p (u (plc hs j)) (if j = k then 1 else 0) := by
  obtain ⟨L, pl, _⟩ := FreeOver.pl p1 inv (PL.nil (p := p) (n := 2 * hs.length)) (free_sd (fun r hr => (g.fit r hr).2) g.free ss [] rfl) fun f hf => by
    obtain ⟨r, hr, rfl⟩ := List.mem_map.mp hf
    exact ⟨sd_len (g.fit r hr).2, sd_rg (by omega) (g.fit r hr).1⟩
  rw [List.nil_append] at pl
  have Ll := lead_many p1 inv g pl
  have lt := (std_iff p1 (fun r hr => (g.fit r hr).2) pl).mp st
  have hm : k ∈ L.map (·.1) := Classical.byContradiction fun n => by
    have := below_lenV hs.length (k :: L.map (·.1)) (List.nodup_cons.mpr ⟨n, pl.nd⟩) fun x hx => by
      rcases List.mem_cons.mp hx with rfl | m
      · exact hk
      · obtain ⟨y, hy, rfl⟩ := List.mem_map.mp m
        exact lt y hy
    rw [List.length_cons, List.length_map, Ll] at this
    omega
  obtain ⟨x, hx, rfl⟩ := List.mem_map.mp hm
  have mx : (x.1, vec x.2) ∈ vecs L := mem_vecs.mpr ⟨x, hx, rfl⟩
  refine ⟨rsV hs (vec x.2), sd_back (fun r hr => (g.fit r hr).2) ((pl.lot _).mp (.of ⟨_, mx, rfl⟩)), fun j hj => ?_⟩
  rw [← sd_plc (v := rsV hs (vec x.2)) hj, sd_rs (by omega)]
  by_cases e : j = x.1
  · rw [if_pos e, e]
    exact pl.leads.self _ mx
  · rw [if_neg e]
    have hj' : j ∈ L.map (·.1) := Classical.byContradiction fun n => by
      have := below_lenV hs.length (j :: L.map (·.1)) (List.nodup_cons.mpr ⟨n, pl.nd⟩) fun x hx => by
        rcases List.mem_cons.mp hx with rfl | m
        · exact hj
        · obtain ⟨y, hy, rfl⟩ := List.mem_map.mp m
          exact lt y hy
      rw [List.length_cons, List.length_map, Ll] at this
      omega
    obtain ⟨y, hy, rfl⟩ := List.mem_map.mp hj'
    exact pl.leads.other _ mx _ (mem_vecs.mpr ⟨y, hy, rfl⟩) fun q => e q.symm
theorem plc_unlike {h1 h2 : List Int} {k : Nat} (b1 : Bits h1) (b2 : Bits h2) (ne : vec h1 k ≠ vec h2 k) : plc h2 k = rdp h1 k := by
  have a := b1.at k
  have b := b2.at k
  unfold plc rdp
  rcases a with e | e
  · rcases b with f | f
    · exact absurd (e.trans f.symm) ne
    · rw [f, e, if_neg (by decide), if_pos rfl]
  · rcases b with f | f
    · rw [f, e, if_pos rfl, if_neg (by decide)]
    · exact absurd (e.trans f.symm) ne
theorem plc_like {h1 h2 : List Int} {k : Nat} (e : vec h1 k = vec h2 k) : plc h2 k = plc h1 k := by
  unfold plc
  rw [e]
theorem exch {p : Int} {h1 h2 : List Int} {ss : List RowP} {q : Nat} (p1 : 1 < p) (inv : ∀ u, 0 < u → u < p → ∃ c, c * u % p = 1) (g : Lag p h1.length ss) (l : h2.length = h1.length) (b1 : Bits h1) (b2 : Bits h2) (s1 : Std p h1 ss) (s2 : Std p h2 ss) (hq : q < h1.length) (ne : vec h1 q ≠ vec h2 q) : ∃ r, r < h1.length ∧ vec h1 r ≠ vec h2 r ∧ Std p (flipL h1 [q, r]) ss := by
  obtain ⟨u, lu, hu⟩ := unit_of p1 inv g s1 hq
  have uq : Cg p (u (plc h1 q)) 1 := by
    have := hu q hq
    rwa [if_pos rfl] at this
  -- what is not 0 there
  have some : ∃ r, r < h1.length ∧ vec h1 r ≠ vec h2 r ∧ ¬ Cg p (u (rdp h1 r)) 0 := Classical.byContradiction fun n => by
    have z := s2 u lu fun k hk => by
      rw [l] at hk
      by_cases e : vec h1 k = vec h2 k
      · rw [plc_like e]
        have := hu k hk
        rw [if_neg (fun x => ne (by rw [← x]; exact e))] at this
        exact this
      · rw [plc_unlike b1 b2 e]
        exact Classical.byContradiction fun y => n ⟨k, hk, e, y⟩
    exact one_zero p1 (uq.symm.trans (z _))
  by_cases self : Cg p (u (rdp h1 q)) 0
  · obtain ⟨r, hr, nr, zr⟩ := some
    have qr : q ≠ r := fun e => zr (by rw [← e]; exact self)
    obtain ⟨v, lv, hv⟩ := unit_of p1 inv g s1 hr
    -- by the meet of both
    have nz : ¬ Cg p (v (rdp h1 q)) 0 := fun z => zr (by
      have fa := lot_fairV g lu lv
      rw [fair_sd (hs := h1)] at fa
      have e1 : ∀ k, k < h1.length → Cg p (sdV h1 u k * sdV h1 v (h1.length + k) - sdV h1 v k * sdV h1 u (h1.length + k)) ((if k = r then -1 else 0) * sdV h1 u (h1.length + k)) := fun k hk => by
        rw [sd_plc hk, sd_plc hk]
        have a := hu k hk
        have b := hv k hk
        have b' := b.mul (Cg.rfl' (p := p) (a := sdV h1 u (h1.length + k)))
        have a' : Cg p (u (plc h1 k) * sdV h1 v (h1.length + k)) 0 := by
          by_cases e : k = q
          · have t := (Cg.rfl' (p := p) (a := u (plc h1 k) * (if vec h1 k = 0 then 1 else -1))).mul z
            rw [Int.mul_zero] at t
            rw [sd_read hk, ← Int.mul_assoc]
            rw [e] at t ⊢
            exact t
          · rw [if_neg e] at a
            have t := a.mul (Cg.rfl' (p := p) (a := sdV h1 v (h1.length + k)))
            rw [Int.zero_mul] at t
            exact t
        refine (a'.sub b').trans ?_
        by_cases e : k = r
        · rw [if_pos e, if_pos e]
          exact ⟨0, by grind⟩
        · rw [if_neg e, if_neg e]
          exact ⟨0, by grind⟩
      have t := (sum_one (p := p) (j := r) (f := fun k => sdV h1 u k * sdV h1 v (h1.length + k) - sdV h1 v k * sdV h1 u (h1.length + k)) h1.length hr fun k hk nk => by
        have := e1 k hk
        rw [if_neg nk, Int.zero_mul] at this
        exact this).symm.trans fa
      have t2 := (e1 r hr).symm.trans t
      rw [if_pos rfl, sd_read hr] at t2
      obtain ⟨c, hc⟩ := t2
      by_cases y : vec h1 r = 0
      · rw [if_pos y] at hc
        exact ⟨-c, by grind⟩
      · rw [if_neg y] at hc
        exact ⟨c, by grind⟩)
    refine ⟨r, hr, nr, fun x lx hx => ?_⟩
    rw [flip_len] at hx
    have w := s1 (fun i => (x i + -(x (plc h1 q)) * u i) + -(x (plc h1 r)) * v i) (Lot.comb _ (Lot.comb _ lx lu) lv) fun k hk => by
      have a := hu k hk
      have b := hv k hk
      have t := ((Cg.rfl' (p := p) (a := x (plc h1 k))).add ((Cg.rfl' (p := p) (a := -(x (plc h1 q)))).mul a)).add ((Cg.rfl' (p := p) (a := -(x (plc h1 r)))).mul b)
      refine t.trans ?_
      by_cases e : k = q
      · subst e
        rw [if_pos rfl, if_neg qr]
        exact ⟨0, by grind⟩
      · by_cases e2 : k = r
        · subst e2
          rw [if_neg e, if_pos rfl]
          exact ⟨0, by grind⟩
        · rw [if_neg e, if_neg e2]
          have := hx k hk
          rw [plc_flip b1 hk, if_neg (by simp [e, e2])] at this
          refine Cg.trans ?_ this
          exact ⟨0, by grind⟩
    have xq := hx q hq
    rw [plc_flip b1 hq, if_pos (by simp)] at xq
    have xr := hx r hr
    rw [plc_flip b1 hr, if_pos (by simp)] at xr
    have br : Cg p (x (plc h1 r)) 0 := cancel0 p1 inv nz (by
      obtain ⟨c1, h1'⟩ := w (rdp h1 q)
      obtain ⟨c2, h2'⟩ := self
      obtain ⟨c3, h3'⟩ := xq
      exact ⟨c3 - c1 - x (plc h1 q) * c2, by grind⟩)
    have bq : Cg p (x (plc h1 q)) 0 := cancel0 p1 inv zr (by
      obtain ⟨c1, h1'⟩ := w (rdp h1 r)
      obtain ⟨c2, h2'⟩ := br
      obtain ⟨c3, h3'⟩ := xr
      exact ⟨c3 - c1 - c2 * v (rdp h1 r), by grind⟩)
    intro i
    obtain ⟨c1, h1'⟩ := w i
    obtain ⟨c2, h2'⟩ := br
    obtain ⟨c3, h3'⟩ := bq
    exact ⟨c1 + c3 * u i + c2 * v i, by grind⟩
  · refine ⟨q, hq, ne, fun x lx hx => ?_⟩
    rw [flip_len] at hx
    have w := s1 (fun i => x i + -(x (plc h1 q)) * u i) (Lot.comb _ lx lu) fun k hk => by
      have t := (Cg.rfl' (p := p) (a := x (plc h1 k))).add ((Cg.rfl' (p := p) (a := -(x (plc h1 q)))).mul (hu k hk))
      refine t.trans ?_
      by_cases e : k = q
      · subst e
        rw [if_pos rfl]
        exact ⟨0, by grind⟩
      · rw [if_neg e]
        have := hx k hk
        rw [plc_flip b1 hk, if_neg (by simp [e])] at this
        refine Cg.trans ?_ this
        exact ⟨0, by grind⟩
    have xq := hx q hq
    rw [plc_flip b1 hq, if_pos (by simp)] at xq
    have bq : Cg p (x (plc h1 q)) 0 := cancel0 p1 inv self (by
      obtain ⟨c1, h1'⟩ := w (rdp h1 q)
      obtain ⟨c3, h3'⟩ := xq
      exact ⟨c3 - c1, by grind⟩)
    intro i
    obtain ⟨c1, h1'⟩ := w i
    obtain ⟨c3, h3'⟩ := bq
    exact ⟨c1 + c3 * u i, by grind⟩
end Lin
set_option linter.all false
/-! mending is least -/
namespace Lin
/-- rows free of one another that are told by so many places are at most so many -/
theorem few_le {p : Int} {n : Nat} {fs : List (List Int)} {M : List (Nat × List Int)} (p1 : 1 < p) (inv : ∀ u, 0 < u → u < p → ∃ c, c * u % p = 1) (pl : PL p n fs M) (Q : List Nat) (h : ∀ v, Lot p (spn fs) v → (∀ q ∈ Q, Cg p (v q) 0) → Eqv p v fun _ => 0) : M.length ≤ Q.length := by
  rcases Nat.lt_or_ge Q.length M.length with lt | le
  · exfalso
    have p0 : 0 < p := by omega
    have hf : ∀ f ∈ M.map (fun x => Q.map fun q => vec x.2 q % p), f.length = Q.length ∧ Rg p f := fun f hf => by
      obtain ⟨x, _, rfl⟩ := List.mem_map.mp hf
      refine ⟨by simp, fun u hu => ?_⟩
      obtain ⟨k, _, rfl⟩ := List.mem_map.mp hu
      exact ⟨Int.emod_nonneg _ (by omega), Int.emod_lt_of_pos _ p0⟩
    have nf : ¬ FreeOver p [] (M.map (fun x => Q.map fun q => vec x.2 q % p)) := fun k => by
      obtain ⟨N, pn, nl⟩ := FreeOver.pl p1 inv (PL.nil (p := p) (n := Q.length)) k hf
      have k2 := below_lenV Q.length (N.map (·.1)) pn.nd fun x hx => by
        obtain ⟨y, hy, rfl⟩ := List.mem_map.mp hx
        exact pn.plc y hy
      rw [List.length_map, nl, List.length_map, List.length_nil] at k2
      omega
    obtain ⟨b, bl, ⟨x, hx, x1⟩, hz⟩ := not_free _ _ nf
    rw [List.nil_append] at bl hz
    rw [List.length_map] at bl
    -- the sum by these numbers
    have lv : ∀ (b : List Int) (K : List (Nat × List Int)), (∀ y ∈ K, y ∈ M) → Lot p (spn fs) fun i => (List.zipWith (fun c (y : Nat × List Int) => c * vec y.2 i) b K).sum := fun b => by
      induction b with
      | nil => intro K _; exact .eqv .zero fun i => by simp; exact Cg.rfl'
      | cons c b ih =>
        intro K hK
        cases K with
        | nil => exact .eqv .zero fun i => by simp; exact Cg.rfl'
        | cons y K =>
          have ly : Lot p (spn fs) (vec y.2) := (pl.lot _).mp (.of ⟨_, mem_vecs.mpr ⟨y, hK y (by simp), rfl⟩, rfl⟩)
          refine .eqv (Lot.comb c (ih K fun z hz => hK z (List.mem_cons_of_mem _ hz)) ly) fun i => ?_
          show Cg p (_ + c * vec y.2 i) (c * vec y.2 i + (List.zipWith (fun c (y : Nat × List Int) => c * vec y.2 i) b K).sum)
          exact ⟨0, by grind⟩
    have zq := h _ (lv b M fun _ hy => hy) fun q hq => by
      obtain ⟨j, hj, ej⟩ := List.mem_iff_getElem.mp hq
      refine Cg.trans ?_ (hz j)
      have tie : ∀ (b : List Int) (K : List (Nat × List Int)), Cg p (List.zipWith (fun c (y : Nat × List Int) => c * vec y.2 q) b K).sum (List.zipWith (fun c f => c * vec f j) b (K.map (fun x => Q.map fun q => vec x.2 q % p))).sum := fun b => by
        induction b with
        | nil => intro K; simp; exact Cg.rfl'
        | cons c b ih =>
          intro K
          cases K with
          | nil => simp; exact Cg.rfl'
          | cons y K =>
            have ev : vec (Q.map fun q => vec y.2 q % p) j = vec y.2 q % p := by
              refine vec_some ?_
              rw [List.getElem?_map, List.getElem?_eq_getElem hj, ej]
              rfl
            show Cg p (c * vec y.2 q + _) (c * vec _ j + _)
            rw [ev]
            exact (Cg.rfl'.mul (Cg.mod _).symm).add (ih K)
      exact tie b M
    -- at the place where the row with 1 begins
    obtain ⟨i, hi⟩ := List.mem_iff_getElem?.mp hx
    have hil : i < M.length := by
      have := (List.getElem?_eq_some_iff.mp hi).1
      omega
    have z := zq (M[i]).1
    have val : ∀ (b : List Int) (K : List (Nat × List Int)) (i : Nat), (∀ y ∈ K, y ∈ M) → (K.map (·.1)).Nodup → b.length = K.length → ∀ (hi : i < K.length) (x : Int), b[i]? = some x → Cg p (List.zipWith (fun c (y : Nat × List Int) => c * vec y.2 (K[i]).1) b K).sum x := fun b => by
      have none0 : ∀ (b : List Int) (K : List (Nat × List Int)) (q : Nat), (∀ y ∈ K, y ∈ M) → (∀ y ∈ K, y.1 ≠ q) → (∃ w ∈ M, w.1 = q) → Cg p (List.zipWith (fun c (y : Nat × List Int) => c * vec y.2 q) b K).sum 0 := fun b => by
        induction b with
        | nil => intro K q _ _ _; simp; exact Cg.rfl'
        | cons c b ih =>
          intro K q hK hn hw
          cases K with
          | nil => simp; exact Cg.rfl'
          | cons y K =>
            obtain ⟨w, hw1, hw2⟩ := id hw
            have o := pl.leads.other _ (mem_vecs.mpr ⟨y, hK y (by simp), rfl⟩) _ (mem_vecs.mpr ⟨w, hw1, rfl⟩) (by show y.1 ≠ w.1; rw [hw2]; exact hn y (by simp))
            have o' : Cg p (vec y.2 w.1) 0 := o
            rw [hw2] at o'
            have a := ((Cg.rfl' (p := p) (a := c)).mul o').add (ih K q (fun z hz => hK z (List.mem_cons_of_mem _ hz)) (fun z hz => hn z (List.mem_cons_of_mem _ hz)) hw)
            rw [Int.mul_zero, Int.zero_add] at a
            exact a
      induction b with
      | nil => intro K i _ _ hl hi; simp at hl; omega
      | cons c b ih =>
        intro K i hK nd hl hi x hx
        cases K with
        | nil => simp at hi
        | cons y K =>
          rw [List.map_cons, List.nodup_cons] at nd
          have hK' : ∀ z ∈ K, z ∈ M := fun z hz => hK z (List.mem_cons_of_mem _ hz)
          cases i with
          | zero =>
            cases hx
            have s : Cg p (vec y.2 y.1) 1 := pl.leads.self _ (mem_vecs.mpr ⟨y, hK y (by simp), rfl⟩)
            have a := ((Cg.rfl' (p := p) (a := c)).mul s).add (none0 b K y.1 hK' (fun z hz e => nd.1 (by rw [← e]; exact List.mem_map.mpr ⟨z, hz, rfl⟩)) ⟨y, hK y (by simp), rfl⟩)
            rw [Int.mul_one, Int.add_zero] at a
            exact a
          | succ i =>
            have hi' : i < K.length := by simpa using hi
            have o := pl.leads.other _ (mem_vecs.mpr ⟨y, hK y (by simp), rfl⟩) _ (mem_vecs.mpr ⟨K[i], hK' _ (List.getElem_mem hi'), rfl⟩) (fun e => nd.1 (by rw [show y.1 = (K[i]).1 from e]; exact List.mem_map.mpr ⟨_, List.getElem_mem hi', rfl⟩))
            have o' : Cg p (vec y.2 (K[i]).1) 0 := o
            have a := ((Cg.rfl' (p := p) (a := c)).mul o').add (ih K i hK' nd.2 (by simpa using hl) hi' x (by simpa using hx))
            rw [Int.mul_zero, Int.zero_add] at a
            exact a
    exact one_zero p1 (x1.symm.trans ((val b M i (fun _ h => h) pl.nd bl hil x hi).symm.trans z))
  · exact le
/-- no hold that stands is nearer than the still ones' free numbers tell -/
theorem near_le {p : Int} {hs h2 : List Int} {ss zs : List RowP} {M : List (Nat × List Int)} (p1 : 1 < p) (inv : ∀ u, 0 < u → u < p → ∃ c, c * u % p = 1) (b1 : Bits hs) (b2 : Bits h2) (l : h2.length = hs.length) (me : Mend p hs ss M zs) (st : Std p h2 ss) (D : List Nat) (hD : ∀ k, k < hs.length → vec hs k ≠ vec h2 k → k ∈ D) : M.length ≤ D.length := by
  have := few_le p1 inv me.pl (D.map (rdp hs)) fun v lv z => by
    obtain ⟨l1, h0⟩ := (me.lot v).mp lv
    refine st v l1 fun k hk => ?_
    rw [l] at hk
    by_cases e : vec hs k = vec h2 k
    · rw [plc_like e]
      exact h0 k hk
    · rw [plc_unlike b1 b2 e]
      exact z _ (List.mem_map.mpr ⟨k, hD k hk e, rfl⟩)
  simpa using this
theorem flip1_other {hs : List Int} {k j : Nat} (b : Bits hs) (h : j < hs.length) (ne : j ≠ k) : plc (flipL hs [k]) j = plc hs j := by
  rw [plc_flip b h, if_neg (by simpa using ne)]
theorem flip1_self {hs : List Int} {k : Nat} (b : Bits hs) (h : k < hs.length) : plc (flipL hs [k]) k = rdp hs k := by
  rw [plc_flip b h, if_pos (by simp)]
/-- by one exchange one free number more or less at most -/
theorem step_le {p : Int} {hs : List Int} {k : Nat} {ss zs zs' : List RowP} {M M' : List (Nat × List Int)} (p1 : 1 < p) (inv : ∀ u, 0 < u → u < p → ∃ c, c * u % p = 1) (b : Bits hs) (hk : k < hs.length) (me : Mend p hs ss M zs) (me' : Mend p (flipL hs [k]) ss M' zs') : M.length ≤ M'.length + 1 ∧ M'.length ≤ M.length + 1 := by
  constructor
  · have := few_le p1 inv me.pl (rdp hs k :: M'.map (·.1)) fun v lv z => by
      obtain ⟨l1, h0⟩ := (me.lot v).mp lv
      have lz := (me'.pl.lot _).mpr ((me'.lot v).mpr ⟨l1, fun j hj => by
        rw [flip_len] at hj
        by_cases e : j = k
        · rw [e, flip1_self b hk]
          exact z _ (by simp)
        · rw [flip1_other b hj e]
          exact h0 j hj⟩)
      exact ((lot_iff me'.pl.leads me'.pl.ndv).mp lz).symm.trans (own_none fun x hx => by
        obtain ⟨y, hy, rfl⟩ := mem_vecs.mp hx
        exact z _ (List.mem_cons_of_mem _ (List.mem_map.mpr ⟨y, hy, rfl⟩)))
    simpa using this
  · have := few_le p1 inv me'.pl (plc hs k :: M.map (·.1)) fun v lv z => by
      obtain ⟨l1, h0⟩ := (me'.lot v).mp lv
      rw [flip_len] at h0
      have lz := (me.pl.lot _).mpr ((me.lot v).mpr ⟨l1, fun j hj => by
        by_cases e : j = k
        · rw [e]
          exact z _ (by simp)
        · have := h0 j hj
          rw [flip1_other b hj e] at this
          exact this⟩)
      exact ((lot_iff me.pl.leads me.pl.ndv).mp lz).symm.trans (own_none fun x hx => by
        obtain ⟨y, hy, rfl⟩ := mem_vecs.mp hx
        exact z _ (List.mem_cons_of_mem _ (List.mem_map.mpr ⟨y, hy, rfl⟩)))
    simpa using this
/-- by an exchange that mending tells just one fewer -/
theorem step_mend {p : Int} {hs : List Int} {ss zs zs' : List RowP} {M M' : List (Nat × List Int)} (p1 : 1 < p) (inv : ∀ u, 0 < u → u < p → ∃ c, c * u % p = 1) (b : Bits hs) (g : Lag p hs.length ss) (me : Mend p hs ss M zs) {x : Nat × List Int} (hx : x ∈ M) (me' : Mend p (flipL hs [x.1 / 2]) ss M' zs') : M'.length + 1 = M.length := by
  obtain ⟨hk, ex⟩ := me.read p1 hx
  have up := (step_le p1 inv b hk me me').1
  have stx := me.row hx
  have dn := few_le p1 inv me'.pl ((M.map (·.1)).erase x.1) fun v lv z => by
    obtain ⟨l1, h0⟩ := (me'.lot v).mp lv
    rw [flip_len] at h0
    have vx : Cg p (v x.1) 0 := by
      have := h0 _ hk
      rw [flip1_self b hk, ← ex] at this
      exact this
    have held : ∀ j, j < hs.length → Cg p (v (plc hs j)) 0 := fun j hj => by
      by_cases e : j = x.1 / 2
      · have fa := lot_fairV g l1 stx.1
        rw [fair_sd (hs := hs)] at fa
        have one := sum_one (p := p) (j := x.1 / 2) (f := fun k => sdV hs v k * sdV hs (vec x.2) (hs.length + k) - sdV hs (vec x.2) k * sdV hs v (hs.length + k)) hs.length hk fun k hk' ne => by
          have z2 : Cg p (sdV hs (vec x.2) k) 0 := by
            rw [sd_plc hk']
            exact stx.2 k hk'
          have z1 : Cg p (sdV hs v k) 0 := by
            rw [sd_plc hk', ← flip1_other b hk' ne]
            exact h0 k hk'
          have a2 := z1.mul (Cg.rfl' (p := p) (a := sdV hs (vec x.2) (hs.length + k)))
          have b2 := z2.mul (Cg.rfl' (p := p) (a := sdV hs v (hs.length + k)))
          rw [Int.zero_mul] at a2 b2
          exact a2.sub b2
        have t := one.symm.trans fa
        have z2 : Cg p (sdV hs (vec x.2) (x.1 / 2)) 0 := by
          rw [sd_plc hk]
          exact stx.2 _ hk
        have b2 := z2.mul (Cg.rfl' (p := p) (a := sdV hs v (hs.length + x.1 / 2)))
        rw [Int.zero_mul] at b2
        have t2 : Cg p ((sdV hs v (x.1 / 2) * sdV hs (vec x.2) (hs.length + x.1 / 2) - sdV hs (vec x.2) (x.1 / 2) * sdV hs v (hs.length + x.1 / 2)) + sdV hs (vec x.2) (x.1 / 2) * sdV hs v (hs.length + x.1 / 2)) (0 + 0) := t.add b2
        rw [show ∀ a b : Int, a - b + b = a from fun a b => by omega] at t2
        have nz : ¬ Cg p (sdV hs (vec x.2) (hs.length + x.1 / 2)) 0 := fun w => by
          rw [sd_read hk, ← ex] at w
          have s : Cg p (vec x.2 x.1) 1 := me.pl.leads.self _ (mem_vecs.mpr ⟨x, hx, rfl⟩)
          by_cases y : vec hs (x.1 / 2) = 0
          · rw [if_pos y, Int.one_mul] at w
            exact one_zero p1 (s.symm.trans w)
          · rw [if_neg y] at w
            obtain ⟨c, hc⟩ := w
            exact one_zero p1 (s.symm.trans ⟨-c, by grind⟩)
        have r := cancel0 p1 inv nz t2
        rw [sd_plc hk] at r
        rw [e]
        exact r
      · have := h0 j hj
        rw [flip1_other b hj e] at this
        exact this
    have lz := (me.pl.lot _).mpr ((me.lot v).mpr ⟨l1, held⟩)
    exact ((lot_iff me.pl.leads me.pl.ndv).mp lz).symm.trans (own_none fun y' hy' => by
      obtain ⟨y, hy, rfl⟩ := mem_vecs.mp hy'
      by_cases e : y.1 = x.1
      · show Cg p (v y.1) 0
        rw [e]
        exact vx
      · exact z _ ((me.pl.nd.mem_erase_iff).mpr ⟨e, List.mem_map.mpr ⟨y, hy, rfl⟩⟩))
  rw [List.length_erase_of_mem (List.mem_map.mpr ⟨x, hx, rfl⟩), List.length_map] at dn
  have pos : 0 < M.length := List.length_pos_of_mem hx
  omega
end Lin
set_option linter.all false
/-! rows told from the last post on -/
namespace Lin
/-- the place that a place is from the other end -/
def rv (m i : Nat) : Nat := if i < 2 * m then 2 * (m - 1 - i / 2) + i % 2 else i
theorem rv_rv {m i : Nat} : rv m (rv m i) = i := by
  unfold rv
  by_cases h : i < 2 * m
  · rw [if_pos h, if_pos (by omega)]
    omega
  · rw [if_neg h, if_neg h]
theorem rv_vec {r : RowP} {m : Nat} (l : r.length = m) (i : Nat) : vec (flatR r.reverse) i = vec (flatR r) (rv m i) := by
  unfold rv
  by_cases h : i < 2 * m
  · rw [if_pos h]
    obtain ⟨a, b⟩ := vec_flatP r.reverse (i / 2)
    obtain ⟨c, d⟩ := vec_flatP r (m - 1 - i / 2)
    have e : r.reverse.getD (i / 2) (0, 0) = r.getD (m - 1 - i / 2) (0, 0) := by
      rw [List.getD_eq_getElem?_getD, List.getD_eq_getElem?_getD, List.getElem?_reverse (by omega), l]
    rcases Nat.mod_two_eq_zero_or_one i with o | o
    · rw [show vec (flatR r.reverse) i = vec (flatR r.reverse) (2 * (i / 2)) by congr 1; omega, a, e, o, Nat.add_zero, c]
    · rw [show vec (flatR r.reverse) i = vec (flatR r.reverse) (2 * (i / 2) + 1) by congr 1; omega, b, e, o, d]
  · rw [if_neg h, vec_out (by rw [flat_len, List.length_reverse, l]; omega), vec_out (by rw [flat_len, l]; omega)]
theorem lot_rv {p : Int} {m : Nat} {ss : List RowP} (l : ∀ r ∈ ss, r.length = m) {u : Vc} (h : Lot p (spn (ss.map flatR)) u) : Lot p (spn ((ss.map List.reverse).map flatR)) fun i => u (rv m i) := by
  induction h with
  | zero => exact .eqv .zero fun i => Cg.rfl'
  | @add u v c _ hv ih =>
    obtain ⟨f, hf, rfl⟩ := hv
    obtain ⟨r, hr, rfl⟩ := List.mem_map.mp hf
    refine .eqv (Lot.comb c ih (.of ⟨flatR r.reverse, List.mem_map.mpr ⟨r.reverse, List.mem_map.mpr ⟨r, hr, rfl⟩, rfl⟩, rfl⟩)) fun i => ?_
    rw [rv_vec (l r hr)]
    exact Cg.rfl'
  | eqv _ e ih => exact .eqv ih fun i => e _
theorem rev_rev (ss : List RowP) : (ss.map List.reverse).map List.reverse = ss := by
  rw [List.map_map]
  have : (List.reverse ∘ List.reverse : RowP → RowP) = id := funext fun r => List.reverse_reverse r
  rw [this, List.map_id]
theorem lot_rv_iff {p : Int} {m : Nat} {ss : List RowP} (l : ∀ r ∈ ss, r.length = m) (u : Vc) : Lot p (spn ((ss.map List.reverse).map flatR)) (fun i => u (rv m i)) ↔ Lot p (spn (ss.map flatR)) u := by
  constructor
  · intro h
    have l' : ∀ r ∈ ss.map List.reverse, r.length = m := fun r hr => by
      obtain ⟨s, hs, rfl⟩ := List.mem_map.mp hr
      rw [List.length_reverse, l s hs]
    have := lot_rv l' h
    rw [rev_rev] at this
    refine .eqv this fun i => ?_
    rw [rv_rv]
    exact Cg.rfl'
  · exact lot_rv l
theorem plc_rev {hs : List Int} {k : Nat} (hk : k < hs.length) : rv hs.length (plc hs.reverse k) = plc hs (hs.length - 1 - k) := by
  have e : vec hs.reverse k = vec hs (hs.length - 1 - k) := by
    show hs.reverse.getD k 0 = hs.getD _ 0
    rw [List.getD_eq_getElem?_getD, List.getD_eq_getElem?_getD, List.getElem?_reverse hk]
  unfold plc rv
  rw [e]
  split
  · rw [if_pos (by omega)]
    omega
  · rw [if_pos (by omega)]
    omega
theorem std_rev {p : Int} {hs : List Int} {ss : List RowP} (l : ∀ r ∈ ss, r.length = hs.length) (st : Std p hs.reverse (ss.map List.reverse)) : Std p hs ss := by
  intro u lu z
  have := st _ (lot_rv l lu) fun k hk => by
    rw [List.length_reverse] at hk
    show Cg p (u (rv hs.length (plc hs.reverse k))) 0
    rw [plc_rev hk]
    exact z _ (by omega)
  intro i
  have w := this (rv hs.length i)
  have w' : Cg p (u (rv hs.length (rv hs.length i))) 0 := w
  rw [rv_rv] at w'
  exact w'
theorem lag_rev {p : Int} {m : Nat} {ss : List RowP} (g : Lag p m ss) : Lag p m (ss.map List.reverse) := by
  refine ⟨fun r hr => ?_, by rw [List.length_map, g.len], fun i r hr => ?_, fun r hr s hs => ?_⟩
  · obtain ⟨s, hs, rfl⟩ := List.mem_map.mp hr
    exact ⟨fun u hu => (g.fit s hs).1 u (List.mem_reverse.mp hu), by rw [List.length_reverse]; exact (g.fit s hs).2⟩
  · rw [List.getElem?_map] at hr
    obtain ⟨s, hs, rfl⟩ := Option.map_eq_some_iff.mp hr
    obtain ⟨q, z, nz⟩ := g.free i s hs
    refine ⟨rv m q, fun t ht => ?_, ?_⟩
    · rw [← List.map_take] at ht
      obtain ⟨t', ht', rfl⟩ := List.mem_map.mp ht
      rw [rv_vec (g.fit t' (List.mem_of_mem_take ht')).2, rv_rv]
      exact z t' ht'
    · rw [rv_vec (g.fit s (List.mem_of_getElem? hs)).2, rv_rv]
      exact nz
  · obtain ⟨r', hr', rfl⟩ := List.mem_map.mp hr
    obtain ⟨s', hs', rfl⟩ := List.mem_map.mp hs
    have e : (List.zipWith (fun u v : Int × Int => u.1 * v.2 - v.1 * u.2) r'.reverse s'.reverse).sum = (List.zipWith (fun u v : Int × Int => u.1 * v.2 - v.1 * u.2) r' s').sum := by
      rw [← List.reverse_zipWith (by rw [(g.fit r' hr').2, (g.fit s' hs').2]), List.sum_reverse]
    rw [e]
    exact g.fair r' hr' s' hs'
/-- noughts exchanged at some posts, from the other end -/
theorem flip0_rev {m : Nat} {ps : List Nat} (lt : ∀ k ∈ ps, k < m) : (flipL (List.replicate m 0) (ps.map fun k => m - 1 - k)).reverse = flipL (List.replicate m 0) ps := by
  have zl : (List.replicate m (0 : Int)).length = m := by simp
  have z0 : ∀ k, vec (List.replicate m (0 : Int)) k = 0 := fun k => by
    show (List.replicate m (0 : Int)).getD k 0 = 0
    rw [List.getD_eq_getElem?_getD, List.getElem?_replicate]
    split <;> rfl
  refine List.ext_getElem? fun k => ?_
  by_cases hk : k < m
  · have g1 : ∀ (qs : List Nat) (j : Nat), j < m → (flipL (List.replicate m 0) qs)[j]? = some (if j ∈ qs then 1 else 0) := fun qs j hj => by
      unfold flipL
      rw [zl, List.getElem?_map, List.getElem?_range hj]
      simp only [Option.map_some, z0]
      split <;> rfl
    rw [List.getElem?_reverse (by rw [flip_len, zl]; exact hk), flip_len, zl, g1 _ _ (by omega), g1 _ _ hk]
    congr 1
    have iff : (m - 1 - k ∈ ps.map fun k => m - 1 - k) ↔ k ∈ ps := by
      constructor
      · intro h
        obtain ⟨j, hj, e⟩ := List.mem_map.mp h
        have := lt j hj
        rw [show k = j by omega]
        exact hj
      · intro h
        exact List.mem_map.mpr ⟨k, h, rfl⟩
    by_cases h : k ∈ ps
    · rw [if_pos h, if_pos (iff.mpr h)]
    · rw [if_neg h, if_neg (fun w => h (iff.mp w))]
  · rw [List.getElem?_eq_none (by rw [List.length_reverse, flip_len, zl]; omega), List.getElem?_eq_none (by rw [flip_len, zl]; omega)]
end Lin
set_option linter.all false
/-! lots of units, by held numbers; their own mirror; one table -/
namespace Lin
theorem lot_dot {p : Int} : ∀ {fs : List (List Int)} {a u : Vc}, (∀ j, Cg p (u j) (dot a (col fs j) fs.length)) → Lot p (spn fs) u
  | [], a, u, h => .eqv .zero fun j => (h j).symm
  | f :: fs, a, u, h => by
    have l1 : Lot p (spn fs) (fun j => dot (shf a) (col fs j) fs.length) := lot_dot (a := shf a) fun j => Cg.rfl'
    have l2 : Lot p (spn (f :: fs)) (fun j => dot (shf a) (col fs j) fs.length) := spn_sub (fun g hg => List.mem_cons_of_mem _ hg) l1
    refine .eqv (Lot.comb (a 0) l2 (.of ⟨f, by simp, rfl⟩)) fun j => ((h j).trans ?_).symm
    show Cg p (a 0 * col (f :: fs) j 0 + dot (shf a) (shf (col (f :: fs) j)) fs.length) _
    rw [shf_col]
    exact ⟨0, by show a 0 * vec f j + _ = _; grind⟩
theorem units_col {p : Int} {hs : List Int} {gs : List (List Int)} {i j : Nat} (h : i < hs.length) : Cg p (col ((unitsP p hs gs).map flatR) j i) (stV hs gs hs.length (vec (unitL hs.length i)) j) := by
  have e : col ((unitsP p hs gs).map flatR) j i = vec (flatR (stP p hs gs (unitL hs.length i))) j := by
    unfold col
    rw [List.getD_eq_getElem?_getD, List.getElem?_map, units_get h]
    rfl
  rw [e]
  exact st_vec j
theorem units_dot {p : Int} {hs : List Int} {gs : List (List Int)} {a : Vc} {j : Nat} : Cg p (dot a (col ((unitsP p hs gs).map flatR) j) ((unitsP p hs gs).map flatR).length) (stV hs gs hs.length a j) := by
  rw [List.length_map, units_len, ← st_dot]
  exact dot_cgN _ (fun _ _ => Cg.rfl') fun i hi => units_col hi
/-- a lot of units: all stands of held numbers -/
theorem units_lot {p : Int} {hs : List Int} {gs : List (List Int)} {u : Vc} : Lot p (spn ((unitsP p hs gs).map flatR)) u ↔ ∃ a, Eqv p u (stV hs gs hs.length a) := by
  constructor
  · intro h
    obtain ⟨a, ha⟩ := lot_coef h
    exact ⟨a, fun j => (ha j).trans units_dot⟩
  · rintro ⟨a, ha⟩
    exact lot_dot (a := a) fun j => (ha j).trans units_dot.symm
theorem plc_half {hs : List Int} {k : Nat} : plc hs k / 2 = k := by
  unfold plc
  split <;> omega
theorem sd_stV {hs : List Int} {gs : List (List Int)} {a : Vc} {j : Nat} (h : j < hs.length) : sdV hs (stV hs gs hs.length a) j = a j ∧ sdV hs (stV hs gs hs.length a) (hs.length + j) = toldV gs a hs.length j := by
  constructor
  · rw [sd_plc h]
    unfold stV
    rw [plc_half]
    have l : plc hs j < 2 * hs.length := by
      unfold plc
      split <;> omega
    rw [if_pos l]
    unfold plc
    by_cases z : vec hs j = 0
    · rw [if_pos z, if_pos (propext ⟨fun _ => by omega, fun _ => z⟩)]
    · rw [if_neg z, if_pos (propext ⟨fun y => absurd y z, fun y => by omega⟩)]
  · unfold sdV stV
    rw [if_neg (by omega), if_pos (by omega)]
    have e : hs.length + j - hs.length = j := by omega
    have e1 : (2 * j + 1) / 2 = j := by omega
    have e2 : 2 * j / 2 = j := by omega
    rw [e, e1, e2]
    by_cases z : vec hs j = 0
    · rw [if_pos z, if_pos (by omega), if_neg (fun y => by have := y.mp z; omega), if_neg (by omega)]
    · rw [if_neg z, if_pos (by omega), if_neg (fun y => z (y.mpr (by omega))), if_pos (by omega)]
      omega
theorem by_sides {p : Int} {hs : List Int} {v w : Vc} (sv : ∀ i, 2 * hs.length ≤ i → Cg p (v i) 0) (sw : ∀ i, 2 * hs.length ≤ i → Cg p (w i) 0) (h1 : ∀ j, j < hs.length → Cg p (sdV hs v j) (sdV hs w j)) (h2 : ∀ j, j < hs.length → Cg p (sdV hs v (hs.length + j)) (sdV hs w (hs.length + j))) : Eqv p v w := fun i => by
  by_cases hi : i < 2 * hs.length
  · rw [← rs_sd (hs := hs) (v := v) hi, ← rs_sd (hs := hs) (v := w) hi]
    have hk : i / 2 < hs.length := by omega
    have a := h1 _ hk
    have b := h2 _ hk
    have c : Cg p (-sdV hs v (hs.length + i / 2)) (-sdV hs w (hs.length + i / 2)) := by
      have := (Cg.rfl' (p := p) (a := 0)).sub b
      have e1 : ∀ x : Int, 0 - x = -x := fun x => by omega
      rw [e1, e1] at this
      exact this
    unfold rsV
    rw [if_pos hi, if_pos hi]
    split
    · split
      · exact a
      · exact b
    · split
      · exact c
      · exact a
  · exact (sv i (by omega)).trans (sw i (by omega)).symm
theorem stV_out {hs : List Int} {gs : List (List Int)} {m : Nat} {a : Vc} {i : Nat} (h : 2 * m ≤ i) : stV hs gs m a i = 0 := by
  unfold stV
  rw [if_neg (by omega)]
/-- what meets all units with 0 is a stand -/
theorem units_mirror {p : Int} {hs : List Int} {gs : List (List Int)} {w : Vc} (sy : Sy gs) (sw : ∀ i, 2 * hs.length ≤ i → Cg p (w i) 0) (h : ∀ k, k < hs.length → Cg p (dot (crs (vec (flatR (stP p hs gs (unitL hs.length k))))) w (2 * hs.length)) 0) : Eqv p w (stV hs gs hs.length (sdV hs w)) := by
  refine by_sides sw (fun i hi => by rw [stV_out hi]; exact Cg.rfl') (fun j hj => ?_) (fun j hj => ?_)
  · rw [(sd_stV hj).1]
    exact Cg.rfl'
  · rw [(sd_stV hj).2]
    have e := h j hj
    rw [fair_sd, sum_sub] at e
    have es : Eqv p (sdV hs (vec (flatR (stP p hs gs (unitL hs.length j))))) (sdV hs (stV hs gs hs.length (vec (unitL hs.length j)))) := sd_eqv st_vec
    have x1 : Cg p (dot (fun k => sdV hs (vec (flatR (stP p hs gs (unitL hs.length j)))) k) (fun k => sdV hs w (hs.length + k)) hs.length) (sdV hs w (hs.length + j)) := by
      have := dot_cgN (p := p) hs.length (u := fun k => sdV hs (vec (flatR (stP p hs gs (unitL hs.length j)))) k) (v := vec (unitL hs.length j)) (w := fun k => sdV hs w (hs.length + k)) (x := fun k => sdV hs w (hs.length + k)) (fun i hi => (es i).trans (by rw [(sd_stV hi).1]; exact Cg.rfl')) fun _ _ => Cg.rfl'
      rw [dot_unit hj] at this
      exact this
    have x2 : Cg p (dot (fun k => sdV hs w k) (fun k => sdV hs (vec (flatR (stP p hs gs (unitL hs.length j)))) (hs.length + k)) hs.length) (toldV gs (sdV hs w) hs.length j) := by
      refine dot_cgN hs.length (fun _ _ => Cg.rfl') fun i hi => (es _).trans ?_
      rw [(sd_stV hi).2]
      unfold toldV
      rw [dot_unit hj, sy]
      exact Cg.rfl'
    have y := (x1.symm.sub x2.symm).trans e
    have := y.add (Cg.rfl' (p := p) (a := toldV gs (sdV hs w) hs.length j))
    have e1 : sdV hs w (hs.length + j) - toldV gs (sdV hs w) hs.length j + toldV gs (sdV hs w) hs.length j = sdV hs w (hs.length + j) := by omega
    have e2 : 0 + toldV gs (sdV hs w) hs.length j = toldV gs (sdV hs w) hs.length j := by omega
    rw [e1, e2] at this
    exact this
theorem vec_flat_out {r : RowP} {m i : Nat} (l : r.length = m) (h : 2 * m ≤ i) : vec (flatR r) i = 0 := vec_out (by rw [flat_len, l]; exact h)
theorem unit_mem {p : Int} {hs : List Int} {gs : List (List Int)} {k : Nat} (h : k < hs.length) : stP p hs gs (unitL hs.length k) ∈ unitsP p hs gs := List.mem_of_getElem? (units_get h)
theorem alike_lot {p : Int} {hs : List Int} {gs : List (List Int)} {r : RowP} (sy : Sy gs) (lr : r.length = hs.length) (h : ∀ s ∈ unitsP p hs gs, Cg p (List.zipWith (fun u v => u.1 * v.2 - v.1 * u.2) s r).sum 0) : Lot p (spn ((unitsP p hs gs).map flatR)) (vec (flatR r)) := by
  refine units_lot.mpr ⟨_, units_mirror sy (fun i hi => by rw [vec_flat_out lr hi]; exact Cg.rfl') fun k hk => ?_⟩
  have := h _ (unit_mem hk)
  rw [meet_dot (by rw [st_len, lr]), st_len] at this
  exact this
theorem meet_swap (p : Int) : ∀ (r s : RowP), Cg p (List.zipWith (fun u v => u.1 * v.2 - v.1 * u.2) r s).sum (-(List.zipWith (fun u v => u.1 * v.2 - v.1 * u.2) s r).sum)
  | [], s => by simp [Cg.rfl']
  | _ :: _, [] => by simp [Cg.rfl']
  | u :: r, v :: s => by
    obtain ⟨c, hc⟩ := meet_swap p r s
    refine ⟨c, ?_⟩
    simp only [List.zipWith_cons_cons, List.sum_cons]
    rw [hc]
    grind
/-- two tables' lots are one just where each unit of the one meets each of the other with 0 -/
theorem alike_iff {p : Int} {h1 h2 : List Int} {g1 g2 : List (List Int)} (p1 : 1 < p) (s1 : Sy g1) (s2 : Sy g2) (l : h2.length = h1.length) :
    (∀ r ∈ unitsP p h1 g1, ∀ s ∈ unitsP p h2 g2, Cg p (List.zipWith (fun u v => u.1 * v.2 - v.1 * u.2) r s).sum 0) ↔ ∀ u, Lot p (spn ((unitsP p h1 g1).map flatR)) u ↔ Lot p (spn ((unitsP p h2 g2).map flatR)) u := by
  have len1 : ∀ r ∈ unitsP p h1 g1, r.length = h1.length := fun r hr => (units_fit p1 r hr).2
  have len2 : ∀ r ∈ unitsP p h2 g2, r.length = h2.length := fun r hr => (units_fit p1 r hr).2
  constructor
  · intro h u
    refine Lot.iff (fun v hv => ?_) (fun v hv => ?_) u
    · obtain ⟨f, hf, rfl⟩ := hv
      obtain ⟨r, hr, rfl⟩ := List.mem_map.mp hf
      refine alike_lot s2 (by rw [len1 r hr, l]) fun s hs => ?_
      obtain ⟨c, hc⟩ := h r hr s hs
      obtain ⟨d, hd⟩ := meet_swap p s r
      exact ⟨d - c, by rw [hd, hc]; grind⟩
    · obtain ⟨f, hf, rfl⟩ := hv
      obtain ⟨s, hs, rfl⟩ := List.mem_map.mp hf
      exact alike_lot s1 (by rw [len2 s hs, l]) fun r hr => h r hr s hs
  · intro e r hr s hs
    exact lot_fair len1 (units_fair s1) (len1 r hr) (by rw [len2 s hs, l]) (.of ⟨flatR r, List.mem_map.mpr ⟨r, hr, rfl⟩, rfl⟩) ((e _).mpr (.of ⟨flatR s, List.mem_map.mpr ⟨s, hs, rfl⟩, rfl⟩))
theorem cg_small {p a b : Int} (ha : 0 ≤ a ∧ a < p) (hb : 0 ≤ b ∧ b < p) (h : Cg p a b) : a = b := by
  obtain ⟨c, hc⟩ := h
  have e1 : a % p = a := Int.emod_eq_of_lt ha.1 ha.2
  have e2 : b % p = b := Int.emod_eq_of_lt hb.1 hb.2
  rw [← e1, hc, Int.add_mul_emod_self_left, e2]
theorem grid_ext {p : Int} {m : Nat} {g1 g2 : List (List Int)} (p1 : 1 < p) (t1 : Tbl p m g1) (t2 : Tbl p m g2) (h : ∀ k j, k < m → j < m → Cg p (col g1 j k) (col g2 j k)) : g1 = g2 := by
  refine List.ext_getElem (by rw [t1.len, t2.len]) fun k h1 h2 => ?_
  have hk : k < m := by rw [← t1.len]; exact h1
  obtain ⟨l1, r1⟩ := t1.ok g1[k] (List.getElem_mem h1)
  obtain ⟨l2, r2⟩ := t2.ok g2[k] (List.getElem_mem h2)
  refine List.ext_getElem (by rw [l1, l2]) fun j h3 h4 => ?_
  have e := h k j hk (by omega)
  have c1 : col g1 j k = (g1[k])[j] := by
    unfold col
    rw [List.getD_eq_getElem?_getD, List.getElem?_eq_getElem h1]
    exact vec_some (List.getElem?_eq_getElem h3)
  have c2 : col g2 j k = (g2[k])[j] := by
    unfold col
    rw [List.getD_eq_getElem?_getD, List.getElem?_eq_getElem h2]
    exact vec_some (List.getElem?_eq_getElem h4)
  rw [c1, c2] at e
  exact cg_small (r1 _ (List.getElem_mem h3)) (r2 _ (List.getElem_mem h4)) e
theorem one_table {p : Int} {hs : List Int} {g1 g2 : List (List Int)} (p1 : 1 < p) (t1 : Tbl p hs.length g1) (t2 : Tbl p hs.length g2) (e : ∀ u, Lot p (spn ((unitsP p hs g1).map flatR)) u ↔ Lot p (spn ((unitsP p hs g2).map flatR)) u) : g1 = g2 := by
  refine grid_ext p1 t1 t2 fun k j hk hj => ?_
  obtain ⟨a, ha⟩ := units_lot.mp ((e _).mp (units_lot.mpr ⟨vec (unitL hs.length k), Eqv.refl⟩))
  have es := sd_eqv (hs := hs) ha
  have ea : ∀ i, i < hs.length → Cg p (a i) (vec (unitL hs.length k) i) := fun i hi => by
    have := es i
    rw [(sd_stV hi).1, (sd_stV hi).1] at this
    exact this.symm
  have := es (hs.length + j)
  rw [(sd_stV hj).2, (sd_stV hj).2] at this
  unfold toldV at this
  rw [dot_unit hk] at this
  refine this.trans ?_
  have x := dot_cgN (p := p) hs.length (w := col g2 j) (x := col g2 j) ea fun _ _ => Cg.rfl'
  rw [dot_unit hk] at x
  exact x
/-- the lot of a fair thing's noughts: each unit has one 1 -/
theorem col_zero {m k a b : Nat} : col (List.replicate k (List.replicate m 0)) b a = 0 := by
  unfold col
  rw [List.getD_eq_getElem?_getD, List.getElem?_replicate]
  split
  · show (List.replicate m (0 : Int)).getD b 0 = 0
    rw [List.getD_eq_getElem?_getD, List.getElem?_replicate]
    split <;> rfl
  · rfl
theorem dot_cols0 {m k j : Nat} {a : Vc} : ∀ n, dot a (col (List.replicate k (List.replicate m 0)) j) n = 0 := fun n => by
  have := dot_ext n (u := a) (v := a) (w := col (List.replicate k (List.replicate m 0)) j) (x := fun _ => 0) (fun _ _ => rfl) fun i _ => col_zero
  rw [this, dot_zero]
/-- units by noughts do not hang on the prime -/
def oneP (hs : List Int) (k : Nat) : RowP := (List.range hs.length).map fun j => if vec hs j = 0 then (if j = k then 1 else 0, 0) else (0, if j = k then 1 else 0)
theorem one_get {hs : List Int} {j k : Nat} (h : j < hs.length) : (oneP hs k)[j]? = some (if vec hs j = 0 then (if j = k then 1 else 0, 0) else (0, if j = k then 1 else 0)) := by
  unfold oneP
  rw [List.getElem?_map, List.getElem?_range h]
  rfl
theorem one_len {hs : List Int} {k : Nat} : (oneP hs k).length = hs.length := by
  unfold oneP
  simp
theorem unit0 {p : Int} {hs : List Int} {k : Nat} : stP p hs (List.replicate hs.length (List.replicate hs.length 0)) (unitL hs.length k) = oneP hs k := by
  refine List.ext_getElem? fun j => ?_
  by_cases hj : j < hs.length
  · have t0 : toldV (List.replicate hs.length (List.replicate hs.length 0)) (vec (unitL hs.length k)) hs.length j = 0 := dot_cols0 _
    rw [st_get (p := p) (gs := List.replicate hs.length (List.replicate hs.length 0)) (ns := unitL hs.length k) hj, one_get hj, t0, unit_at]
    have z0 : (0 : Int) % p = 0 := by simp
    have z1 : ((0 : Int) - 0) % p = 0 := by simp
    have e : (if j = k ∧ j < hs.length then (1 : Int) else 0) = if j = k then 1 else 0 := by
      by_cases y : j = k
      · rw [if_pos ⟨y, hj⟩, if_pos y]
      · rw [if_neg (fun x => y x.1), if_neg y]
    rw [z0, z1, e]
  · rw [List.getElem?_eq_none (by rw [st_len]; omega), List.getElem?_eq_none (by rw [one_len]; omega)]
def onesP (hs : List Int) : List RowP := (List.range hs.length).map (oneP hs)
theorem units0 {p : Int} {hs : List Int} : unitsP p hs (List.replicate hs.length (List.replicate hs.length 0)) = onesP hs := by
  unfold unitsP onesP
  exact List.map_congr_left fun k _ => unit0
theorem one_vec {hs : List Int} {k i : Nat} (hk : k < hs.length) : vec (flatR (oneP hs k)) i = if i = plc hs k then 1 else 0 := by
  obtain ⟨a, b⟩ := vec_flatP (oneP hs k) (i / 2)
  by_cases hi : i / 2 < hs.length
  · have e : (oneP hs k).getD (i / 2) (0, 0) = if vec hs (i / 2) = 0 then (if i / 2 = k then 1 else 0, 0) else (0, if i / 2 = k then 1 else 0) := by
      rw [List.getD_eq_getElem?_getD, one_get hi]
      rfl
    rw [e] at a b
    unfold plc
    rcases Nat.mod_two_eq_zero_or_one i with o | o
    · rw [show vec (flatR (oneP hs k)) i = vec (flatR (oneP hs k)) (2 * (i / 2)) by congr 1; omega, a]
      by_cases y : i / 2 = k
      · rw [y]
        by_cases z : vec hs k = 0
        · rw [if_pos z, if_pos z, if_pos rfl, if_pos (show i = 2 * k by omega)]
        · rw [if_neg z, if_neg z, if_neg (show ¬ i = 2 * k + 1 by omega)]
      · rw [if_neg (show ¬ i = (if vec hs k = 0 then 2 * k else 2 * k + 1) by split <;> omega)]
        by_cases z : vec hs (i / 2) = 0
        · rw [if_pos z, if_neg y]
        · rw [if_neg z]
    · rw [show vec (flatR (oneP hs k)) i = vec (flatR (oneP hs k)) (2 * (i / 2) + 1) by congr 1; omega, b]
      by_cases y : i / 2 = k
      · rw [y]
        by_cases z : vec hs k = 0
        · rw [if_pos z, if_pos z, if_neg (show ¬ i = 2 * k by omega)]
        · rw [if_neg z, if_neg z, if_pos rfl, if_pos (show i = 2 * k + 1 by omega)]
      · rw [if_neg (show ¬ i = (if vec hs k = 0 then 2 * k else 2 * k + 1) by split <;> omega)]
        by_cases z : vec hs (i / 2) = 0
        · rw [if_pos z]
        · rw [if_neg z, if_neg y]
  · rw [vec_flat_out one_len (by omega), if_neg]
    unfold plc
    split <;> omega
theorem plc_lt {hs : List Int} {j k : Nat} (h : j < k) : plc hs j < plc hs k := by
  unfold plc
  split <;> split <;> omega
theorem ones_plain {p : Int} {hs : List Int} (p1 : 1 < p) : Pln p (2 * hs.length) ((List.range hs.length).map (plc hs)) ((onesP hs).map flatR) := by
  refine ⟨by unfold onesP; simp, ?_, fun q hq => ?_, fun i q f eq ef => ?_⟩
  · rw [List.pairwise_map]
    exact List.pairwise_lt_range.imp fun {a b} h => plc_lt h
  · obtain ⟨k, hk, rfl⟩ := List.mem_map.mp hq
    have := List.mem_range.mp hk
    unfold plc
    split <;> omega
  · rw [List.getElem?_map] at eq
    obtain ⟨k, ek, rfl⟩ := Option.map_eq_some_iff.mp eq
    have hi : i < hs.length := by
      have := (List.getElem?_eq_some_iff.mp ek).1
      rw [List.length_range] at this
      exact this
    rw [List.getElem?_range hi] at ek
    cases ek
    unfold onesP at ef
    rw [List.getElem?_map, List.getElem?_map, List.getElem?_range hi] at ef
    cases ef
    refine ⟨by rw [flat_len, one_len], flat_rgP (fun u hu => ?_), fun j hj => by rw [one_vec hi, if_neg (by omega)], by rw [one_vec hi, if_pos rfl], fun o ho lt => by rw [one_vec hi, if_neg (by omega)]⟩
    unfold oneP at hu
    obtain ⟨j, _, rfl⟩ := List.mem_map.mp hu
    by_cases z : vec hs j = 0
    · rw [if_pos z]
      by_cases y : j = i
      · rw [if_pos y]; exact ⟨⟨by decide, p1⟩, ⟨by decide, by omega⟩⟩
      · rw [if_neg y]; exact ⟨⟨by decide, by omega⟩, ⟨by decide, by omega⟩⟩
    · rw [if_neg z]
      by_cases y : j = i
      · rw [if_pos y]; exact ⟨⟨by decide, by omega⟩, ⟨by decide, p1⟩⟩
      · rw [if_neg y]; exact ⟨⟨by decide, by omega⟩, ⟨by decide, by omega⟩⟩
theorem zip_snd : ∀ {qs : List Nat} {fs : List (List Int)}, fs.length = qs.length → (qs.zip fs).map (·.2) = fs
  | [], [], _ => rfl
  | [], _ :: _, h => by simp at h
  | _ :: _, [], h => by simp at h
  | q :: qs, f :: fs, h => by
    rw [List.zip_cons_cons, List.map_cons, zip_snd (by simpa using h)]
/-- so the plain rows are these -/
theorem ones_rows {p : Int} {hs : List Int} {L : List (Nat × List Int)} {fs : List (List Int)} (p1 : 1 < p) (pl : PL p (2 * hs.length) fs L) (up : Up L) (e : ∀ u, Lot p (spn fs) u ↔ Lot p (spn ((onesP hs).map flatR)) u) : L.map (·.2) = (onesP hs).map flatR := by
  obtain ⟨pl2, up2⟩ := (ones_plain (hs := hs) p1).pl
  rw [pl.one p1 pl2 up up2 e, zip_snd (by unfold onesP; simp)]
end Lin
set_option linter.all false
/-! corners of a table: how much is still by another hold -/
namespace Lin
theorem stV_comb {hs : List Int} {gs : List (List Int)} {m : Nat} {a b : Vc} {c : Int} (i : Nat) : stV hs gs m (fun k => a k + c * b k) i = stV hs gs m a i + c * stV hs gs m b i := by
  have t : ∀ j, toldV gs (fun k => a k + c * b k) m j = toldV gs a m j + c * toldV gs b m j := fun j => by
    unfold toldV
    exact dot_combL m a b _
  unfold stV
  split
  · split
    · rfl
    · split
      · rw [t]; grind
      · rw [t]
  · simp
theorem stV_cg {p : Int} {hs : List Int} {gs : List (List Int)} {m : Nat} {a b : Vc} (h : ∀ k, k < m → Cg p (a k) (b k)) : Eqv p (stV hs gs m a) (stV hs gs m b) := fun i => by
  have t : ∀ j, Cg p (toldV gs a m j) (toldV gs b m j) := fun j => dot_cgN m h fun _ _ => Cg.rfl'
  unfold stV
  split
  · split
    · exact h _ (by omega)
    · split
      · obtain ⟨c, hc⟩ := t (i / 2)
        exact ⟨-c, by rw [hc]; grind⟩
      · exact t _
  · exact Cg.rfl'
theorem stV_zero {hs : List Int} {gs : List (List Int)} {m : Nat} (i : Nat) : stV hs gs m (fun _ => 0) i = 0 := by
  have t : ∀ j, toldV gs (fun _ => 0) m j = 0 := fun j => dot_zeroL m _
  unfold stV
  split
  · split
    · rfl
    · split
      · rw [t]; rfl
      · rw [t]
  · rfl
theorem sum_filter {p : Int} {f : Nat → Int} {P : Nat → Bool} : ∀ xs : List Nat, (∀ k ∈ xs, P k = false → Cg p (f k) 0) → Cg p (xs.map f).sum ((xs.filter P).map f).sum
  | [], _ => Cg.rfl'
  | x :: xs, h => by
    have ih := sum_filter (f := f) xs fun k hk => h k (List.mem_cons_of_mem _ hk)
    cases e : P x with
    | true =>
      rw [List.filter_cons_of_pos e, List.map_cons, List.map_cons, List.sum_cons, List.sum_cons]
      exact Cg.rfl'.add ih
    | false =>
      rw [List.filter_cons_of_neg (by rw [e]; decide), List.map_cons, List.sum_cons]
      have := (h x (by simp) e).add ih
      rw [Int.zero_add] at this
      exact this
theorem sum_dotD {a c : Vc} : ∀ D : List Nat, (D.map fun k => a k * c k).sum = dot (fun x => a (D.getD x 0)) (fun x => c (D.getD x 0)) D.length
  | [] => rfl
  | d :: D => by
    rw [List.map_cons, List.sum_cons, sum_dotD D]
    rfl
/-- the posts told -/
def Dl (P : Nat → Bool) (m : Nat) : List Nat := (List.range m).filter P
theorem dl_mem {P : Nat → Bool} {m k : Nat} : k ∈ Dl P m ↔ k < m ∧ P k = true := by
  unfold Dl
  rw [List.mem_filter, List.mem_range]
theorem dl_nd {P : Nat → Bool} {m : Nat} : (Dl P m).Nodup := List.nodup_range.filter _
theorem dl_get {P : Nat → Bool} {m x : Nat} (h : x < (Dl P m).length) : (Dl P m).getD x 0 < m ∧ P ((Dl P m).getD x 0) = true ∧ (Dl P m).getD x 0 ∈ Dl P m := by
  have e : (Dl P m).getD x 0 = (Dl P m)[x] := by
    rw [List.getD_eq_getElem?_getD, List.getElem?_eq_getElem h]
    rfl
  rw [e]
  have := dl_mem.mp (List.getElem_mem h)
  exact ⟨this.1, this.2, List.getElem_mem h⟩
theorem dot_dl {p : Int} {P : Nat → Bool} {m : Nat} {a c : Vc} (h : ∀ k, k < m → P k = false → Cg p (a k) 0) : Cg p (dot a c m) (dot (fun x => a ((Dl P m).getD x 0)) (fun x => c ((Dl P m).getD x 0)) (Dl P m).length) := by
  rw [← sum_range, ← sum_dotD]
  refine sum_filter _ fun k hk e => ?_
  have := (h k (List.mem_range.mp hk) e).mul (Cg.rfl' (p := p) (a := c k))
  rw [Int.zero_mul] at this
  exact this
def corner (g : List (List Int)) (D : List Nat) : List (List Int) := D.map fun k => D.map fun j => col g j k
theorem corner_get {g : List (List Int)} {D : List Nat} {x : Nat} (h : x < D.length) : (corner g D)[x]? = some (D.map fun j => col g j (D.getD x 0)) := by
  unfold corner
  rw [List.getElem?_map, List.getElem?_eq_getElem h, List.getD_eq_getElem?_getD, List.getElem?_eq_getElem h]
  rfl
theorem vec_mapD {f : Nat → Int} {D : List Nat} {x : Nat} (h : x < D.length) : vec (D.map f) x = f (D.getD x 0) := by
  refine vec_some ?_
  rw [List.getElem?_map, List.getElem?_eq_getElem h, List.getD_eq_getElem?_getD, List.getElem?_eq_getElem h]
  rfl
/-- numbers at the posts told, 0 elsewhere -/
def ext (D : List Nat) (b : Vc) : Vc := fun k => if k ∈ D then b (D.idxOf k) else 0
theorem ext_at {D : List Nat} {b : Vc} {x : Nat} (nd : D.Nodup) (h : x < D.length) : ext D b (D.getD x 0) = b x := by
  have e : D.getD x 0 = D[x] := by
    rw [List.getD_eq_getElem?_getD, List.getElem?_eq_getElem h]
    rfl
  unfold ext
  rw [e, if_pos (List.getElem_mem h), nd.idxOf_getElem]
theorem ext_off {D : List Nat} {b : Vc} {k : Nat} (h : k ∉ D) : ext D b k = 0 := if_neg h
theorem ext_comb {D : List Nat} {a b : Vc} {c : Int} (k : Nat) : ext D (fun x => a x + c * b x) k = ext D a k + c * ext D b k := by
  unfold ext
  split
  · rfl
  · simp
theorem idx_lt {D : List Nat} {k : Nat} (h : k ∈ D) : D.idxOf k < D.length := List.idxOf_lt_length_iff.mpr h
theorem idx_get {D : List Nat} {k : Nat} (h : k ∈ D) : D.getD (D.idxOf k) 0 = k := by
  rw [List.getD_eq_getElem?_getD, List.getElem?_eq_getElem (idx_lt h)]
  exact List.getElem_idxOf (idx_lt h)
theorem told_ext {p : Int} {P : Nat → Bool} {m : Nat} {g : List (List Int)} {a : Vc} (sy : Sy g) (h : ∀ k, k < m → P k = false → Cg p (a k) 0) {y : Nat} (hy : y < (Dl P m).length) : Cg p (toldV g a m ((Dl P m).getD y 0)) (dot (vec ((Dl P m).map fun j => col g j ((Dl P m).getD y 0))) (fun x => a ((Dl P m).getD x 0)) (Dl P m).length) := by
  unfold toldV
  refine (dot_dl h).trans ?_
  rw [dot_comm]
  refine dot_cgN _ (fun i hi => ?_) fun _ _ => Cg.rfl'
  rw [vec_mapD hi, sy]
  exact Cg.rfl'
theorem vec_rangeM {f : Nat → Int} {n i : Nat} : vec ((List.range n).map f) i = if i < n then f i else 0 := by
  by_cases h : i < n
  · rw [if_pos h]
    exact vec_some (by rw [List.getElem?_map, List.getElem?_range h]; rfl)
  · rw [if_neg h]
    exact vec_out (by simp; omega)
theorem fresh_map {p : Int} {V : Nat → List Int} {F : List Nat} (nd : F.Nodup) (h : ∀ f ∈ F, ∃ q, ¬ Cg p (vec (V f) q) 0 ∧ ∀ g ∈ F, g ≠ f → Cg p (vec (V g) q) 0) : ∀ i, i ≤ F.length → Fresh p ((F.take i).map V)
  | 0, _ => by
    rw [List.take_zero]
    exact .nil
  | i + 1, hi => by
    have e : F[i]? = some F[i] := List.getElem?_eq_getElem (by omega)
    rw [List.take_add_one, e, Option.toList_some, List.map_append]
    obtain ⟨q, h1, h2⟩ := h F[i] (List.getElem_mem (by omega))
    refine .snoc q (fresh_map nd h i (by omega)) (fun g hg => ?_) h1
    obtain ⟨k, hk, rfl⟩ := List.mem_map.mp hg
    obtain ⟨j, hj, ej⟩ := List.mem_iff_getElem.mp hk
    rw [List.length_take] at hj
    rw [List.getElem_take] at ej
    refine h2 k (List.mem_of_mem_take hk) fun z => ?_
    rw [z] at ej
    exact (List.pairwise_iff_getElem.mp nd) j i (by omega) (by omega) (by omega) ej
theorem free_many {n : Nat} {qs : List Nat} (nd : qs.Nodup) (lt : ∀ q ∈ qs, q < n) : ((List.range n).filter fun k => decide (k ∉ qs)).length + qs.length = n := by
  have pm : (((List.range n).filter fun k => decide (k ∉ qs)) ++ qs).Perm (List.range n) := by
    refine (List.perm_ext_iff_of_nodup ?_ List.nodup_range).mpr fun a => ?_
    · rw [List.nodup_append]
      refine ⟨List.nodup_range.filter _, nd, fun x hx y hy z => ?_⟩
      have := (List.mem_filter.mp hx).2
      rw [z] at this
      exact of_decide_eq_true this hy
    · rw [List.mem_append, List.mem_filter, List.mem_range, decide_eq_true_iff]
      constructor
      · rintro (h | h)
        · exact h.1
        · exact lt a h
      · intro h
        by_cases k : a ∈ qs
        · exact .inr k
        · exact .inl ⟨h, k⟩
  have := pm.length_eq
  rw [List.length_append, List.length_range] at this
  exact this
theorem cg_neg1 {p x s : Int} (hs : s = 1 ∨ s = -1) : Cg p (s * x) 0 ↔ Cg p x 0 := by
  rcases hs with rfl | rfl
  · rw [Int.one_mul]
  · constructor
    · rintro ⟨c, hc⟩
      exact ⟨-c, by grind⟩
    · rintro ⟨c, hc⟩
      exact ⟨-c, by grind⟩
/-- what is still by another hold: as much as the corner lacks -/
theorem still_corner {p : Int} {h1 h2 : List Int} {g : List (List Int)} {ss : List RowP} {L : List (Nat × List Int)} (p1 : 1 < p) (inv : ∀ u, 0 < u → u < p → ∃ c, c * u % p = 1) (b1 : Bits h1) (b2 : Bits h2) (l : h2.length = h1.length) (sy : Sy g) (sp : ∀ u, Lot p (spn (ss.map flatR)) u ↔ Lot p (spn ((unitsP p h1 g).map flatR)) u)
    (pl : PL p (Dl (fun k => decide (vec h1 k ≠ vec h2 k)) h1.length).length (corner g (Dl (fun k => decide (vec h1 k ≠ vec h2 k)) h1.length)) L) :
    ∃ fs M, PL p (2 * h1.length) fs M ∧ (∀ u, Lot p (spn fs) u ↔ Stl p h2 ss u) ∧ M.length + L.length = (Dl (fun k => decide (vec h1 k ≠ vec h2 k)) h1.length).length := by
  generalize hP : (fun k => decide (vec h1 k ≠ vec h2 k)) = P at pl ⊢
  have hP' : ∀ k, P k = true ↔ vec h1 k ≠ vec h2 k := fun k => by
    rw [← hP]
    exact decide_eq_true_iff
  have hPf : ∀ k, P k = false → vec h2 k = vec h1 k := fun k e => by
    have : ¬ P k = true := by rw [e]; decide
    exact (Classical.not_not.mp fun z => this ((hP' k).mpr z)).symm
  generalize hm : h1.length = m at *
  have nd : (Dl P m).Nodup := dl_nd
  generalize hn : (Dl P m).length = n at *
  have ltL : ∀ x ∈ vecs L, x.1 < n := fun x hx => by
    obtain ⟨y, hy, rfl⟩ := mem_vecs.mp hx
    exact pl.plc y hy
  let F := (List.range n).filter fun k => decide (k ∉ L.map (·.1))
  have hF : ∀ f, f ∈ F ↔ f < n ∧ ∀ x ∈ vecs L, x.1 ≠ f := fun f => by
    show f ∈ (List.range n).filter _ ↔ _
    rw [List.mem_filter, List.mem_range, decide_eq_true_iff]
    refine and_congr_right fun _ => ⟨fun h x hx e => h ?_, fun h k => ?_⟩
    · obtain ⟨y, hy, rfl⟩ := mem_vecs.mp hx
      exact List.mem_map.mpr ⟨y, hy, e⟩
    · obtain ⟨y, hy, e⟩ := List.mem_map.mp k
      exact h (y.1, vec y.2) (mem_vecs.mpr ⟨y, hy, rfl⟩) e
  have ndF : F.Nodup := List.nodup_range.filter _
  have lF : F.length + L.length = n := by
    have := free_many (n := n) pl.nd (fun q hq => by
      obtain ⟨x, hx, rfl⟩ := List.mem_map.mp hq
      exact pl.plc x hx)
    rw [List.length_map] at this
    exact this
  let W : Nat → Vc := fun f => stV h1 g m (ext (Dl P m) (frV f (vecs L)))
  let V : Nat → List Int := fun f => (List.range (2 * m)).map fun i => W f i % p
  have eV : ∀ f, Eqv p (vec (V f)) (W f) := fun f i => by
    show Cg p (vec ((List.range (2 * m)).map fun i => W f i % p) i) _
    rw [vec_rangeM]
    by_cases h : i < 2 * m
    · rw [if_pos h]
      exact Cg.mod _
    · rw [if_neg h, show W f i = 0 from stV_out (by omega)]
      exact Cg.rfl'
  -- held numbers of W
  have held : ∀ (a : Vc) (k : Nat), k < m → stV h1 g m a (plc h1 k) = a k := fun a k hk => by
    have := (sd_stV (hs := h1) (gs := g) (a := a) (j := k) (by omega)).1
    rw [sd_plc (by omega), hm] at this
    exact this
  have readv : ∀ (a : Vc) (k : Nat), k < m → (if vec h1 k = 0 then 1 else -1) * stV h1 g m a (rdp h1 k) = toldV g a m k := fun a k hk => by
    have := (sd_stV (hs := h1) (gs := g) (a := a) (j := k) (by omega)).2
    rw [sd_read (by omega), hm] at this
    exact this
  have place : ∀ k, k < m → plc h2 k = if P k = true then rdp h1 k else plc h1 k := fun k hk => by
    have x1 := b1.at k
    have x2 := b2.at k
    unfold plc rdp
    by_cases e : P k = true
    · rw [if_pos e]
      have ne := (hP' k).mp e
      by_cases z : vec h1 k = 0
      · rw [if_pos z, if_neg (by omega)]
      · rw [if_neg z, if_pos (by omega)]
    · rw [if_neg e, hPf k (by simpa using e)]
  have sgn : ∀ k, (if vec h1 k = 0 then (1 : Int) else -1) = 1 ∨ (if vec h1 k = 0 then (1 : Int) else -1) = -1 := fun k => by
    split
    · exact .inl rfl
    · exact .inr rfl
  have off : ∀ (b : Vc) k, k < m → P k = false → Cg p (ext (Dl P m) b k) 0 := fun b k _ e => by
    rw [ext_off fun z => by have := (dl_mem.mp z).2; rw [e] at this; cases this]
    exact Cg.rfl'
  have exts : ∀ (b : Vc) x, x < n → ext (Dl P m) b ((Dl P m).getD x 0) = b x := fun b x hx => ext_at nd (by omega)
  have crow : ∀ y, y < n → (corner g (Dl P m))[y]? = some ((Dl P m).map fun j => col g j ((Dl P m).getD y 0)) := fun y hy => corner_get (by omega)
  -- numbers at the posts told, whose table leads to nought there
  have ker : ∀ b : Vc, (∀ x ∈ vecs L, Cg p (dot x.2 b n) 0) ↔ ∀ y, y < n → Cg p (dot (vec ((Dl P m).map fun j => col g j ((Dl P m).getD y 0))) b n) 0 := fun b => by
    constructor
    · intro h y hy
      refine dot_lotL ((pl.lot _).mpr (.of ⟨_, List.mem_of_getElem? (crow y hy), rfl⟩)) fun w hw => ?_
      obtain ⟨x, hx, rfl⟩ := hw
      exact h x hx
    · intro h x hx
      refine dot_lotL ((pl.lot _).mp (.of ⟨x, hx, rfl⟩)) fun w hw => ?_
      obtain ⟨f, hf, rfl⟩ := hw
      obtain ⟨y, hy, ey⟩ := List.mem_iff_getElem.mp hf
      have hy' : y < n := by
        have : (corner g (Dl P m)).length = n := by unfold corner; rw [List.length_map, hn]
        omega
      have e := crow y hy'
      rw [List.getElem?_eq_getElem hy, ey] at e
      rw [Option.some.inj e]
      exact h y hy'
  have told : ∀ (a : Vc), (∀ k, k < m → P k = false → Cg p (a k) 0) → ∀ y, y < n → Cg p (toldV g a m ((Dl P m).getD y 0)) (dot (vec ((Dl P m).map fun j => col g j ((Dl P m).getD y 0))) (fun x => a ((Dl P m).getD x 0)) n) := fun a ha y hy => by
    have := told_ext (p := p) (P := P) (m := m) (g := g) (a := a) sy ha (y := y) (by omega)
    rw [hn] at this
    exact this
  -- each W is still
  have stl : ∀ f ∈ F, Stl p h2 ss (vec (V f)) := fun f hf => by
    refine ⟨(sp _).mpr (units_lot.mpr ⟨ext (Dl P m) (frV f (vecs L)), by rw [hm]; exact eV f⟩), fun k hk => ?_⟩
    have hk' : k < m := by omega
    refine (eV f _).trans ?_
    rw [place k hk']
    cases e : P k with
    | false =>
      rw [if_neg (by decide)]
      show Cg p (stV h1 g m (ext (Dl P m) (frV f (vecs L))) (plc h1 k)) 0
      rw [held _ k hk']
      exact off _ k hk' e
    | true =>
      rw [if_pos rfl, ← cg_neg1 (sgn k)]
      show Cg p ((if vec h1 k = 0 then (1 : Int) else -1) * stV h1 g m (ext (Dl P m) (frV f (vecs L))) (rdp h1 k)) 0
      rw [readv _ k hk']
      have hk2 : k ∈ Dl P m := dl_mem.mpr ⟨hk', e⟩
      have hy : (Dl P m).idxOf k < n := by rw [← hn]; exact idx_lt hk2
      have t := told _ (off (frV f (vecs L))) _ hy
      rw [idx_get hk2] at t
      refine t.trans ?_
      have fk := (fr_ker (p := p) (n := n) (fs := F) pl.leads pl.ndv ltL hF ndF (w := frV f (vecs L)) (fun i hi => ?_)).mp (.of ⟨f, hf, rfl⟩)
      · have := (ker _).mp fk _ hy
        rw [idx_get hk2] at this
        refine Cg.trans (dot_cgN n (fun _ _ => Cg.rfl') fun i hi => ?_) this
        rw [exts _ i hi]
        exact Cg.rfl'
      · have fn := ((hF f).mp hf).1
        show un f i + -1 * cu (fun x => x.2 f) (vecs L) i = 0
        rw [cu_out fun x hx => by have := ltL x hx; omega]
        have : un f i = 0 := if_neg (by omega)
        rw [this]
        rfl
  have lot_ext : ∀ b : Vc, Lot p (fun v => ∃ f ∈ F, v = frV f (vecs L)) b → Lot p (spn (F.map V)) (stV h1 g m (ext (Dl P m) b)) := fun b h => by
    induction h with
    | zero =>
      refine .eqv .zero fun i => ?_
      have : ext (Dl P m) (fun _ => 0) = fun _ => 0 := funext fun k => by
        unfold ext
        split <;> rfl
      rw [this, stV_zero]
      exact Cg.rfl'
    | @add u v c _ hv ih =>
      obtain ⟨f, hf, rfl⟩ := hv
      refine .eqv (Lot.comb c ih (.of ⟨V f, List.mem_map.mpr ⟨f, hf, rfl⟩, rfl⟩)) fun i => ?_
      have e : ext (Dl P m) (fun x => u x + c * frV f (vecs L) x) = fun k => ext (Dl P m) u k + c * ext (Dl P m) (frV f (vecs L)) k := funext fun k => ext_comb k
      rw [e, stV_comb]
      exact Cg.rfl'.add (Cg.rfl'.mul (eV f i))
    | eqv _ e ih =>
      refine .eqv ih (stV_cg fun k _ => ?_)
      unfold ext
      split
      · exact e _
      · exact Cg.rfl'
  have fr : Fresh p (F.map V) := by
    have := fresh_map (p := p) (V := V) ndF (fun f hf => ⟨plc h1 ((Dl P m).getD f 0), ?_, fun k hk ne => ?_⟩) F.length (Nat.le_refl _)
    · rw [List.take_length] at this
      exact this
    · have fn := ((hF f).mp hf).1
      have dg := dl_get (P := P) (m := m) (x := f) (by omega)
      intro z
      have e := (eV f (plc h1 ((Dl P m).getD f 0))).symm.trans z
      have e2 : W f (plc h1 ((Dl P m).getD f 0)) = 1 := by
        show stV h1 g m _ _ = 1
        rw [held _ _ dg.1, exts _ f fn]
        exact fr_self fun x hx => ((hF f).mp hf).2 x hx
      rw [e2] at e
      have := cg_small (p := p) ⟨by decide, p1⟩ ⟨by decide, by omega⟩ e
      omega
    · have fn := ((hF f).mp hf).1
      have dg := dl_get (P := P) (m := m) (x := f) (by omega)
      refine (eV k _).trans ?_
      have e2 : W k (plc h1 ((Dl P m).getD f 0)) = 0 := by
        show stV h1 g m _ _ = 0
        rw [held _ _ dg.1, exts _ f fn]
        exact fr_other (fun x hx => ((hF f).mp hf).2 x hx) ne
      rw [e2]
      exact Cg.rfl'
  obtain ⟨M, plM, lM⟩ := fr.pl (n := 2 * m) p1 inv fun f hf => by
    obtain ⟨k, hk, rfl⟩ := List.mem_map.mp hf
    refine ⟨by show ((List.range (2 * m)).map _).length = _; simp, fun u hu => ?_⟩
    obtain ⟨i, _, rfl⟩ := List.mem_map.mp hu
    exact ⟨Int.emod_nonneg _ (by omega), Int.emod_lt_of_pos _ (by omega)⟩
  refine ⟨F.map V, M, plM, fun u => ⟨fun h => ⟨?_, fun k hk => ?_⟩, fun h => ?_⟩, by rw [lM, List.length_map]; exact lF⟩
  · exact Lot.sub (fun v hv => by
      obtain ⟨f, hf, rfl⟩ := hv
      obtain ⟨k, hk, rfl⟩ := List.mem_map.mp hf
      exact (stl k hk).1) h
  · exact h.at0 fun v hv => by
      obtain ⟨f, hf, rfl⟩ := hv
      obtain ⟨j, hj, rfl⟩ := List.mem_map.mp hf
      exact (stl j hj).2 k hk
  · obtain ⟨lu, zu⟩ := h
    obtain ⟨a, ha⟩ := units_lot.mp ((sp _).mp lu)
    rw [hm] at ha
    have a0 : ∀ k, k < m → P k = false → Cg p (a k) 0 := fun k hk e => by
      have z := zu k (by omega)
      rw [place k hk, e, if_neg (by decide)] at z
      have := (ha (plc h1 k)).symm.trans z
      rw [held _ k hk] at this
      exact this
    have t0 : ∀ k, k < m → P k = true → Cg p (toldV g a m k) 0 := fun k hk e => by
      have z := zu k (by omega)
      rw [place k hk, if_pos e] at z
      have := (ha (rdp h1 k)).symm.trans z
      rw [← cg_neg1 (sgn k), readv _ k hk] at this
      exact this
    have b0 : ∀ y, y < n → Cg p (dot (vec ((Dl P m).map fun j => col g j ((Dl P m).getD y 0))) (fun x => if x < n then a ((Dl P m).getD x 0) else 0) n) 0 := fun y hy => by
      obtain ⟨d1, d2, _⟩ := dl_get (P := P) (m := m) (x := y) (by omega)
      refine Cg.trans ?_ (t0 _ d1 d2)
      refine Cg.trans (dot_cgN n (fun _ _ => Cg.rfl') fun i hi => ?_) (told a a0 y hy).symm
      rw [if_pos hi]
      exact Cg.rfl'
    have lb := (fr_ker (p := p) (n := n) (fs := F) pl.leads pl.ndv ltL hF ndF (w := fun x => if x < n then a ((Dl P m).getD x 0) else 0) (fun i hi => if_neg (by omega))).mpr ((ker _).mpr b0)
    refine .eqv (lot_ext _ lb) (Eqv.trans (stV_cg fun k hk => ?_) ha.symm)
    cases e : P k with
    | false => exact (off _ k hk e).trans (a0 k hk e).symm
    | true =>
      have hk2 : k ∈ Dl P m := dl_mem.mpr ⟨hk, e⟩
      have hy : (Dl P m).idxOf k < n := by rw [← hn]; exact idx_lt hk2
      unfold ext
      rw [if_pos hk2]
      show Cg p (if (Dl P m).idxOf k < n then a ((Dl P m).getD ((Dl P m).idxOf k) 0) else 0) (a k)
      rw [if_pos hy, idx_get hk2]
      exact Cg.rfl'
end Lin
set_option linter.all false
/-! rows cleared from the first on: how many are free; holds in the order of tuples -/
namespace Lin
abbrev rw_ (R : List (List Int)) (j : Nat) : Vc := vec (R.getD j [])
structure Ec (p : Int) (n : Nat) (gs R : List (List Int)) (c d : Nat) : Prop where
  len : R.length = n
  ok : ∀ r ∈ R, r.length = n ∧ Rg p r
  span : ∀ u, Lot p (spn R) u ↔ Lot p (spn gs) u
  dle : d ≤ c
  dn : d ≤ n
  zero : ∀ j, d ≤ j → j < n → ∀ x, x < c → rw_ R j x = 0
  piv : ∀ i, i < d → ∃ q, rw_ R i q ≠ 0 ∧ ∀ j, i < j → j < n → rw_ R j q = 0
structure Mid (p : Int) (n : Nat) (gs R : List (List Int)) (c d k : Nat) : Prop where
  len : R.length = n
  ok : ∀ r ∈ R, r.length = n ∧ Rg p r
  span : ∀ u, Lot p (spn R) u ↔ Lot p (spn gs) u
  dle : d ≤ c
  dn : d < n
  zero : ∀ j, d ≤ j → j < n → ∀ x, x < c → rw_ R j x = 0
  piv : ∀ i, i < d → ∃ q, rw_ R i q ≠ 0 ∧ ∀ j, i < j → j < n → rw_ R j q = 0
  at_ : rw_ R d c ≠ 0
  clr : ∀ j, d < j → j < k → rw_ R j c = 0
theorem getD_mem {R : List (List Int)} {j : Nat} (h : j < R.length) : R[j]? = some (R.getD j []) ∧ R.getD j [] ∈ R := by
  have e : R.getD j [] = R[j] := by
    rw [List.getD_eq_getElem?_getD, List.getElem?_eq_getElem h]
    rfl
  rw [e]
  exact ⟨List.getElem?_eq_getElem h, List.getElem_mem h⟩
theorem getD_set {R : List (List Int)} {k j : Nat} {r : List Int} (h : k < R.length) : (R.set k r).getD j [] = if j = k then r else R.getD j [] := by
  rw [List.getD_eq_getElem?_getD, List.getD_eq_getElem?_getD]
  by_cases e : j = k
  · subst e
    rw [if_pos rfl, List.getElem?_set_self h]
    rfl
  · rw [if_neg e, List.getElem?_set_ne (fun z => e z.symm)]
theorem Ec.start {p : Int} {n : Nat} {gs : List (List Int)} (l : gs.length = n) (ok : ∀ r ∈ gs, r.length = n ∧ Rg p r) : Ec p n gs gs 0 0 :=
  ⟨l, ok, fun _ => Iff.rfl, Nat.le_refl _, Nat.zero_le _, fun _ _ _ _ h => absurd h (Nat.not_lt_zero _), fun _ h => absurd h (Nat.not_lt_zero _)⟩
theorem Ec.none {p : Int} {n : Nat} {gs R : List (List Int)} {c d : Nat} (h : Ec p n gs R c d) (z : ∀ j, d ≤ j → j < n → rw_ R j c = 0) : Ec p n gs R (c + 1) d :=
  ⟨h.len, h.ok, h.span, by have := h.dle; omega, h.dn, fun j h1 h2 x hx => by
    rcases Nat.lt_or_ge x c with k | k
    · exact h.zero j h1 h2 x k
    · have : x = c := by omega
      rw [this]
      exact z j h1 h2, h.piv⟩
theorem spn_set_swap {p : Int} {R : List (List Int)} {d k : Nat} (hd : d < R.length) (hk : k < R.length) (u : Vc) : Lot p (spn ((R.set d (R.getD k [])).set k (R.getD d []))) u ↔ Lot p (spn R) u := by
  have m : ∀ f, f ∈ (R.set d (R.getD k [])).set k (R.getD d []) ↔ f ∈ R := fun f => by
    have gd : ∀ j, ((R.set d (R.getD k [])).set k (R.getD d [])).getD j [] = if j = k then R.getD d [] else if j = d then R.getD k [] else R.getD j [] := fun j => by
      rw [getD_set (by rw [List.length_set]; exact hk), getD_set hd]
    constructor
    · intro h
      obtain ⟨j, hj, rfl⟩ := List.mem_iff_getElem.mp h
      have e := gd j
      rw [List.getD_eq_getElem?_getD, List.getElem?_eq_getElem hj] at e
      rw [show ((R.set d (R.getD k [])).set k (R.getD d []))[j] = _ from e]
      rw [List.length_set, List.length_set] at hj
      split
      · exact (getD_mem hd).2
      · split
        · exact (getD_mem hk).2
        · exact (getD_mem hj).2
    · intro h
      obtain ⟨j, hj, rfl⟩ := List.mem_iff_getElem.mp h
      have e0 : R[j] = R.getD j [] := by
        rw [List.getD_eq_getElem?_getD, List.getElem?_eq_getElem hj]
        rfl
      by_cases e1 : j = d
      · have e := gd k
        rw [if_pos rfl] at e
        rw [e0, e1]
        have m := (getD_mem (R := (R.set d (R.getD k [])).set k (R.getD d [])) (j := k) (by rw [List.length_set, List.length_set]; exact hk)).2
        rw [e] at m
        exact m
      · by_cases e2 : j = k
        · have e := gd d
          by_cases e3 : d = k
          · exact absurd (e2.trans e3.symm) e1
          · rw [if_neg e3, if_pos rfl] at e
            rw [e0, e2]
            have m := (getD_mem (R := (R.set d (R.getD k [])).set k (R.getD d [])) (j := d) (by rw [List.length_set, List.length_set]; exact hd)).2
            rw [e] at m
            exact m
        · have e := gd j
          rw [if_neg e2, if_neg e1] at e
          rw [e0]
          have m := (getD_mem (R := (R.set d (R.getD k [])).set k (R.getD d [])) (j := j) (by rw [List.length_set, List.length_set]; exact hj)).2
          rw [e] at m
          exact m
  exact ⟨fun h => spn_sub (fun f hf => (m f).mp hf) h, fun h => spn_sub (fun f hf => (m f).mpr hf) h⟩
theorem Ec.swap {p : Int} {n : Nat} {gs R : List (List Int)} {c d k : Nat} (h : Ec p n gs R c d) (h1 : d ≤ k) (h2 : k < n) (nz : rw_ R k c ≠ 0) : Mid p n gs ((R.set d (R.getD k [])).set k (R.getD d [])) c d (d + 1) := by
  have l := h.len
  have hd : d < n := by omega
  have gd : ∀ j, ((R.set d (R.getD k [])).set k (R.getD d [])).getD j [] = if j = k then R.getD d [] else if j = d then R.getD k [] else R.getD j [] := fun j => by
    rw [getD_set (by rw [List.length_set]; omega), getD_set (by omega)]
  have z : ∀ j, d ≤ j → j < n → ∀ (q : Nat), (∀ i, d ≤ i → i < n → rw_ R i q = 0) → rw_ ((R.set d (R.getD k [])).set k (R.getD d [])) j q = 0 := fun j hj hj2 q hq => by
    show vec (List.getD _ j []) q = 0
    rw [gd]
    split
    · exact hq d (Nat.le_refl _) hd
    · split
      · exact hq k h1 h2
      · exact hq j hj hj2
  refine ⟨by simp; exact l, fun r hr => ?_, fun u => (spn_set_swap (by omega) (by omega) u).trans (h.span u), h.dle, hd, fun j hj hj2 x hx => z j hj hj2 x fun i hi hi2 => h.zero i hi hi2 x hx, fun i hi => ?_, ?_, fun j a b => by omega⟩
  · rcases List.mem_or_eq_of_mem_set hr with m | m
    · rcases List.mem_or_eq_of_mem_set m with m | m
      · exact h.ok r m
      · rw [m]; exact h.ok _ (getD_mem (by omega)).2
    · rw [m]; exact h.ok _ (getD_mem (by omega)).2
  · obtain ⟨q, q1, q2⟩ := h.piv i hi
    refine ⟨q, ?_, fun j hj hj2 => ?_⟩
    · show vec (List.getD _ i []) q ≠ 0
      rw [gd, if_neg (by omega), if_neg (by omega)]
      exact q1
    · rcases Nat.lt_or_ge j d with w | w
      · show vec (List.getD _ j []) q = 0
        rw [gd, if_neg (by omega), if_neg (by omega)]
        exact q2 j hj hj2
      · exact z j w hj2 q fun a ha ha2 => q2 a (by omega) ha2
  · show vec (List.getD _ d []) c ≠ 0
    rw [gd]
    by_cases e : d = k
    · rw [if_pos e]; rw [← e] at nz; exact nz
    · rw [if_neg e, if_pos rfl]; exact nz
/-- a row less so many of another -/
def subL (p t : Int) (r u : List Int) : List Int := List.zipWith (fun x y => (x - t * y) % p) r u
theorem sub_lenL {p t : Int} {r u : List Int} {n : Nat} (h1 : r.length = n) (h2 : u.length = n) : (subL p t r u).length = n := by
  unfold subL
  rw [List.length_zipWith, h1, h2, Nat.min_self]
theorem sub_vecL {p t : Int} {r u : List Int} (h : r.length = u.length) (i : Nat) : vec (subL p t r u) i = (vec r i - t * vec u i) % p := by
  by_cases hi : i < r.length
  · refine vec_some ?_
    unfold subL
    rw [List.getElem?_zipWith, List.getElem?_eq_getElem hi, List.getElem?_eq_getElem (by omega)]
    have e1 : vec r i = r[i] := vec_some (List.getElem?_eq_getElem hi)
    have e2 : vec u i = u[i] := vec_some (List.getElem?_eq_getElem (by omega))
    rw [e1, e2]
  · rw [vec_out (by rw [sub_lenL rfl h.symm]; omega), vec_out (by omega), vec_out (by omega)]
    simp
theorem sub_rgL {p t : Int} {r u : List Int} (p0 : 0 < p) : Rg p (subL p t r u) := fun x hx => by
  unfold subL at hx
  obtain ⟨i, hi, rfl⟩ := List.mem_iff_getElem.mp hx
  rw [List.getElem_zipWith]
  exact ⟨Int.emod_nonneg _ (by omega), Int.emod_lt_of_pos _ p0⟩
theorem Mid.step {p : Int} {n : Nat} {gs R : List (List Int)} {c d k : Nat} {b : Int} (p1 : 1 < p) (h : Mid p n gs R c d k) (hk : d < k) (kn : k < n) (hb : b * rw_ R d c % p = 1) : Mid p n gs (R.set k (subL p (rw_ R k c * b) (R.getD k []) (R.getD d []))) c d (k + 1) := by
  have l := h.len
  have dn := h.dn
  have ek := getD_mem (R := R) (j := k) (by omega)
  have ed := getD_mem (R := R) (j := d) (by omega)
  obtain ⟨lk, rk⟩ := h.ok _ ek.2
  obtain ⟨ld, rd⟩ := h.ok _ ed.2
  have gd : ∀ j, (R.set k (subL p (rw_ R k c * b) (R.getD k []) (R.getD d []))).getD j [] = if j = k then subL p (rw_ R k c * b) (R.getD k []) (R.getD d []) else R.getD j [] := fun j => getD_set (by omega)
  have lv : ∀ i, vec (subL p (rw_ R k c * b) (R.getD k []) (R.getD d [])) i = (rw_ R k i - rw_ R k c * b * rw_ R d i) % p := fun i => sub_vecL (by rw [lk, ld]) i
  have z : ∀ j q, (rw_ R j q = 0) → (j = k → rw_ R d q = 0) → rw_ (R.set k (subL p (rw_ R k c * b) (R.getD k []) (R.getD d []))) j q = 0 := fun j q hj hd => by
    show vec (List.getD _ j []) q = 0
    rw [gd]
    split
    · rename_i e
      rw [lv, hd e, ← e, hj]
      simp
    · exact hj
  refine ⟨by rw [List.length_set]; exact l, fun r hr => ?_, fun u => ?_, h.dle, dn, fun j h1 h2 x hx => z j x (h.zero j h1 h2 x hx) fun _ => h.zero d (Nat.le_refl _) dn x hx, fun i hi => ?_, ?_, fun j h1 h2 => ?_⟩
  · rcases List.mem_or_eq_of_mem_set hr with m | m
    · exact h.ok r m
    · rw [m]; exact ⟨sub_lenL lk ld, sub_rgL (by omega)⟩
  · refine Iff.trans (lot_set_add (c := -(rw_ R k c * b)) (i := k) (j := d) (by omega) ek.1 ed.1 (fun i => ?_) u) (h.span u)
    rw [lv]
    refine (Cg.mod _).trans ?_
    exact ⟨0, by show rw_ R k i - _ = vec (R.getD k []) i + _ + _; grind⟩
  · obtain ⟨q, q1, q2⟩ := h.piv i hi
    refine ⟨q, ?_, fun j hj hj2 => z j q (q2 j hj hj2) fun _ => q2 d hi dn⟩
    show vec (List.getD _ i []) q ≠ 0
    rw [gd, if_neg (by omega)]
    exact q1
  · show vec (List.getD _ d []) c ≠ 0
    rw [gd, if_neg (by omega)]
    exact h.at_
  · by_cases e : j = k
    · show vec (List.getD _ j []) c = 0
      rw [gd, if_pos e, lv]
      have e2 : Cg p (b * rw_ R d c) 1 := by
        have := Cg.mod (p := p) (b * rw_ R d c)
        rw [hb] at this
        exact this.symm
      have : Cg p (rw_ R k c - rw_ R k c * b * rw_ R d c) 0 := by
        obtain ⟨x, hx⟩ := e2
        exact ⟨-(rw_ R k c * x), by grind⟩
      obtain ⟨x, hx⟩ := this
      rw [hx, Int.zero_add]
      exact Int.mul_emod_right ..
    · show vec (List.getD _ j []) c = 0
      rw [gd, if_neg e]
      exact h.clr j h1 (by omega)
theorem Mid.done {p : Int} {n : Nat} {gs R : List (List Int)} {c d : Nat} (h : Mid p n gs R c d n) : Ec p n gs R (c + 1) (d + 1) := by
  refine ⟨h.len, h.ok, h.span, by have := h.dle; omega, h.dn, fun j h1 h2 x hx => ?_, fun i hi => ?_⟩
  · rcases Nat.lt_or_ge x c with k | k
    · exact h.zero j (by omega) h2 x k
    · have : x = c := by omega
      rw [this]
      exact h.clr j (by omega) h2
  · rcases Nat.lt_or_ge i d with k | k
    · exact h.piv i k
    · have : i = d := by omega
      rw [this]
      exact ⟨c, h.at_, fun j h1 h2 => h.clr j h1 h2⟩
theorem PL.over {p : Int} {n : Nat} {fs gs : List (List Int)} {L : List (Nat × List Int)} (h : PL p n fs L) (e : ∀ u, Lot p (spn fs) u ↔ Lot p (spn gs) u) : PL p n gs L := ⟨h.len, h.rg, h.plc, h.nd, h.leads, h.ahead, fun u => (h.lot u).trans (e u)⟩
theorem Ec.fin {p : Int} {n : Nat} {gs R : List (List Int)} {d : Nat} (p1 : 1 < p) (inv : ∀ u, 0 < u → u < p → ∃ c, c * u % p = 1) (h : Ec p n gs R n d) : ∃ L, PL p n gs L ∧ L.length = d := by
  have l := h.len
  have dn := h.dn
  have rows : ∀ i, i ≤ d → Fresh p (((List.range' (d - i) i).reverse).map fun j => R.getD j []) := fun i => by
    induction i with
    | zero => intro _; exact .nil
    | succ i ih =>
      intro hi
      have e : List.range' (d - (i + 1)) (i + 1) = (d - (i + 1)) :: List.range' (d - i) i := by
        rw [List.range'_succ]
        congr 2
        omega
      rw [e, List.reverse_cons, List.map_append]
      obtain ⟨q, q1, q2⟩ := h.piv (d - (i + 1)) (by omega)
      refine .snoc q (ih (by omega)) (fun g hg => ?_) fun z => ?_
      · obtain ⟨j, hj, rfl⟩ := List.mem_map.mp hg
        rw [List.mem_reverse, List.mem_range'_1] at hj
        rw [show vec (R.getD j []) q = 0 from q2 j (by omega) (by omega)]
        exact Cg.rfl'
      · have rg := (h.ok _ (getD_mem (R := R) (j := d - (i + 1)) (by omega)).2).2.vec (by omega) q
        exact q1 (cg_small rg ⟨by omega, by omega⟩ z)
  have fr := rows d (Nat.le_refl _)
  obtain ⟨L, pl, ll⟩ := fr.pl (n := n) p1 inv fun f hf => by
    obtain ⟨j, hj, rfl⟩ := List.mem_map.mp hf
    rw [List.mem_reverse, List.mem_range'_1] at hj
    exact h.ok _ (getD_mem (by omega)).2
  refine ⟨L, pl.over fun u => Iff.trans ⟨fun k => spn_sub (fun f hf => ?_) k, fun k => Lot.sub (fun v hv => ?_) k⟩ (h.span u), by rw [ll, List.length_map, List.length_reverse, List.length_range']⟩
  · obtain ⟨j, hj, rfl⟩ := List.mem_map.mp hf
    rw [List.mem_reverse, List.mem_range'_1] at hj
    exact (getD_mem (by omega)).2
  · obtain ⟨f, hf, rfl⟩ := hv
    obtain ⟨j, hj, rfl⟩ := List.mem_iff_getElem.mp hf
    have e0 : R[j] = R.getD j [] := by
      rw [List.getD_eq_getElem?_getD, List.getElem?_eq_getElem hj]
      rfl
    rcases Nat.lt_or_ge j d with w | w
    · rw [e0]
      exact .of ⟨_, List.mem_map.mpr ⟨j, by rw [List.mem_reverse, List.mem_range'_1]; omega, rfl⟩, rfl⟩
    · refine .eqv .zero fun i => ?_
      rw [e0]
      by_cases hi : i < n
      · rw [show vec (R.getD j []) i = 0 from h.zero j w (by omega) i hi]
        exact Cg.rfl'
      · rw [vec_out (by rw [(h.ok _ (getD_mem (R := R) (j := j) hj).2).1]; omega)]
        exact Cg.rfl'
/-- how much a table's corner lacks -/
structure Lacks (p : Int) (g : List (List Int)) (D : List Nat) (r : Nat) : Prop where
  ex : ∃ L, PL p D.length (corner g D) L ∧ r + L.length = D.length
theorem Ec.lacks {p : Int} {g : List (List Int)} {D : List Nat} {R : List (List Int)} {d : Nat} (p1 : 1 < p) (inv : ∀ u, 0 < u → u < p → ∃ c, c * u % p = 1) (h : Ec p D.length (corner g D) R D.length d) : Lacks p g D (D.length - d) := by
  obtain ⟨L, pl, l⟩ := h.fin p1 inv
  have := h.dn
  exact ⟨L, pl, by omega⟩
theorem corner_ok {p : Int} {m : Nat} {g : List (List Int)} {D : List Nat} (t : Tbl p m g) (lt : ∀ k ∈ D, k < m) : ∀ r ∈ corner g D, r.length = D.length ∧ Rg p r := fun r hr => by
  obtain ⟨k, hk, rfl⟩ := List.mem_map.mp hr
  refine ⟨by simp, fun x hx => ?_⟩
  obtain ⟨j, hj, rfl⟩ := List.mem_map.mp hx
  have e := getD_mem (R := g) (j := k) (by rw [t.len]; exact lt k hk)
  obtain ⟨l, r⟩ := t.ok _ e.2
  unfold col
  exact r _ (by
    have : vec (g.getD k []) j = (g.getD k [])[j]'(by rw [l]; exact lt j hj) := vec_some (List.getElem?_eq_getElem _)
    rw [this]
    exact List.getElem_mem _)
/-- stands just where the corner lacks nothing -/
theorem std_lacks {p : Int} {h1 h2 : List Int} {g : List (List Int)} {ss : List RowP} {r : Nat} (p1 : 1 < p) (inv : ∀ u, 0 < u → u < p → ∃ c, c * u % p = 1) (b1 : Bits h1) (b2 : Bits h2) (l : h2.length = h1.length) (sy : Sy g) (sp : ∀ u, Lot p (spn (ss.map flatR)) u ↔ Lot p (spn ((unitsP p h1 g).map flatR)) u)
    (h : Lacks p g ((List.range h1.length).filter fun k => decide (vec h1 k ≠ vec h2 k)) r) : Std p h2 ss ↔ r = 0 := by
  obtain ⟨L, pl, e⟩ := h.ex
  obtain ⟨fs, M, plM, lot, lM⟩ := still_corner p1 inv b1 b2 l sy sp pl
  have er : M.length = r := by
    have : M.length + L.length = r + L.length := lM.trans e.symm
    omega
  constructor
  · intro st
    rw [← er]
    cases M with
    | nil => rfl
    | cons x M =>
      exfalso
      have lx : Lot p (spn fs) (vec x.2) := (plM.lot _).mp (.of ⟨_, mem_vecs.mpr ⟨x, by simp, rfl⟩, rfl⟩)
      obtain ⟨a, b⟩ := (lot _).mp lx
      have z := st _ a (fun k hk => b k hk) x.1
      have o := plM.leads.self _ (mem_vecs.mpr ⟨x, by simp, rfl⟩)
      have := cg_small (p := p) (a := 1) (b := 0) ⟨by decide, p1⟩ ⟨by decide, by omega⟩ (o.symm.trans z)
      omega
  · intro r0 u lu z
    have M0 : M = [] := List.eq_nil_of_length_eq_zero (by omega)
    subst M0
    have := (plM.lot u).mpr ((lot u).mpr ⟨lu, z⟩)
    exact fun i => this.at0 fun v hv => by
      obtain ⟨x, hx, _⟩ := hv
      cases hx
/-! holds in the order of tuples -/
def LexB : List Int → List Int → Prop
  | x :: xs, y :: ys => x < y ∨ (x = y ∧ LexB xs ys)
  | _, _ => False
theorem lex_asym : ∀ {a b : List Int}, LexB a b → LexB b a → False
  | x :: xs, y :: ys, h, k => by
    rcases h with h | ⟨rfl, h⟩
    · rcases k with k | ⟨e, k⟩
      · omega
      · omega
    · rcases k with k | ⟨e, k⟩
      · omega
      · exact lex_asym h k
  | [], _, h, _ => h.elim
  | _ :: _, [], h, _ => h.elim
theorem lex_snoc : ∀ {a b : List Int} {x y : Int}, a.length = b.length → LexB a b ∨ (a = b ∧ x < y) → LexB (a ++ [x]) (b ++ [y])
  | [], [], x, y, _, h => by
    rcases h with h | ⟨_, h⟩
    · exact h.elim
    · exact .inl h
  | [], _ :: _, _, _, l, _ => by simp at l
  | _ :: _, [], _, _, l, _ => by simp at l
  | a :: as, b :: bs, x, y, l, h => by
    have l' : as.length = bs.length := by simpa using l
    rcases h with (h | ⟨rfl, h⟩) | ⟨e, h⟩
    · exact .inl h
    · exact .inr ⟨rfl, lex_snoc l' (.inl h)⟩
    · cases e
      exact .inr ⟨rfl, lex_snoc l' (.inr ⟨rfl, h⟩)⟩
theorem pw_ext {α : Type} {R : α → α → Prop} (as : ∀ a b, R a b → R b a → False) : ∀ {xs ys : List α}, xs.Pairwise R → ys.Pairwise R → (∀ a, a ∈ xs ↔ a ∈ ys) → xs = ys
  | [], [], _, _, _ => rfl
  | [], y :: ys, _, _, h => by have := (h y).mpr (by simp); cases this
  | x :: xs, [], _, _, h => by have := (h x).mp (by simp); cases this
  | x :: xs, y :: ys, hx, hy, h => by
    obtain ⟨x1, x2⟩ := List.pairwise_cons.mp hx
    obtain ⟨y1, y2⟩ := List.pairwise_cons.mp hy
    have e : x = y := by
      rcases List.mem_cons.mp ((h x).mp (by simp)) with e | m
      · exact e
      · rcases List.mem_cons.mp ((h y).mpr (by simp)) with e | m2
        · exact e.symm
        · exact (as _ _ (y1 x m) (x1 y m2)).elim
    subst e
    rw [pw_ext as x2 y2 fun a => ?_]
    constructor
    · intro m
      rcases List.mem_cons.mp ((h a).mp (List.mem_cons_of_mem _ m)) with e | m2
      · rw [e] at m
        exact (as _ _ (x1 x m) (x1 x m)).elim
      · exact m2
    · intro m
      rcases List.mem_cons.mp ((h a).mpr (List.mem_cons_of_mem _ m)) with e | m2
      · rw [e] at m
        exact (as _ _ (y1 x m) (y1 x m)).elim
      · exact m2
/-- so many figures round p -/
def digL (p : Nat) : Nat → Nat → List Int
  | 0, _ => []
  | m + 1, n => digL p m (n / p) ++ [((n % p : Nat) : Int)]
theorem dig_len {p : Nat} : ∀ {m n : Nat}, (digL p m n).length = m
  | 0, _ => rfl
  | m + 1, n => by
    show (digL p m (n / p) ++ [_]).length = _
    rw [List.length_append, dig_len]
    rfl
theorem dig_lex {p : Nat} : ∀ {m a b : Nat}, b < p ^ m → a < b → LexB (digL p m a) (digL p m b)
  | 0, a, b, h, k => by simp at h; omega
  | m + 1, a, b, h, k => by
    refine lex_snoc (by rw [dig_len, dig_len]) ?_
    have hb : b / p < p ^ m := Nat.div_lt_of_lt_mul (by rw [Nat.mul_comm, ← Nat.pow_succ]; exact h)
    have le : a / p ≤ b / p := Nat.div_le_div_right (by omega)
    rcases Nat.lt_or_ge (a / p) (b / p) with w | w
    · exact .inl (dig_lex hb w)
    · have e : a / p = b / p := by omega
      refine .inr ⟨by rw [e], ?_⟩
      have e1 := Nat.div_add_mod a p
      have e2 := Nat.div_add_mod b p
      rw [e] at e1
      omega
def allB (m : Nat) : List (List Int) := (List.range (2 ^ m)).map (digL 2 m)
theorem allB_lex {m : Nat} : (allB m).Pairwise LexB := by
  unfold allB
  rw [List.pairwise_map]
  refine List.Pairwise.imp_of_mem (fun {a b} ha hb h => ?_) List.pairwise_lt_range
  exact dig_lex (List.mem_range.mp hb) h
theorem dig_bits : ∀ {m n : Nat}, Bits (digL 2 m n)
  | 0, _ => fun x hx => by cases hx
  | m + 1, n => fun x hx => by
    rcases List.mem_append.mp hx with h | h
    · exact dig_bits x h
    · rw [List.mem_singleton.mp h]
      omega
theorem dig_all : ∀ {m : Nat} {hs : List Int}, hs.length = m → Bits hs → ∃ n, n < 2 ^ m ∧ digL 2 m n = hs
  | 0, hs, l, _ => ⟨0, by decide, (List.eq_nil_of_length_eq_zero l).symm⟩
  | m + 1, hs, l, b => by
    have ne : hs ≠ [] := fun e => by rw [e] at l; simp at l
    have e := List.dropLast_concat_getLast ne
    obtain ⟨n, hn, en⟩ := dig_all (m := m) (hs := hs.dropLast) (by rw [List.length_dropLast]; omega) fun x hx => b x ((List.dropLast_prefix hs).subset hx)
    rcases b _ (List.getLast_mem ne) with z | z
    · refine ⟨2 * n, by rw [Nat.pow_succ]; omega, ?_⟩
      rw [← e, z, ← en]
      show digL 2 m (2 * n / 2) ++ [((2 * n % 2 : Nat) : Int)] = _
      rw [show 2 * n / 2 = n by omega, show 2 * n % 2 = 0 by omega]
      rfl
    · refine ⟨2 * n + 1, by rw [Nat.pow_succ]; omega, ?_⟩
      rw [← e, z, ← en]
      show digL 2 m ((2 * n + 1) / 2) ++ [(((2 * n + 1) % 2 : Nat) : Int)] = _
      rw [show (2 * n + 1) / 2 = n by omega, show (2 * n + 1) % 2 = 1 by omega]
      rfl
theorem mem_allB {m : Nat} {hs : List Int} : hs ∈ allB m ↔ hs.length = m ∧ Bits hs := by
  unfold allB
  rw [List.mem_map]
  constructor
  · rintro ⟨n, _, rfl⟩
    exact ⟨dig_len, dig_bits⟩
  · rintro ⟨l, b⟩
    obtain ⟨n, hn, e⟩ := dig_all l b
    exact ⟨n, List.mem_range.mpr hn, e⟩
theorem allB_len {m : Nat} : (allB m).length = 2 ^ m := by
  unfold allB
  simp
end Lin
set_option linter.all false
/-! mending one by one, the least post first -/
namespace Lin
theorem PL.tail {p : Int} {n : Nat} {fs : List (List Int)} {x : Nat × List Int} {L : List (Nat × List Int)} (h : PL p n fs (x :: L)) : PL p n (L.map (·.2)) L := by
  have m : ∀ y ∈ vecs L, y ∈ vecs (x :: L) := fun y hy => by
    obtain ⟨z, hz, e⟩ := mem_vecs.mp hy
    exact mem_vecs.mpr ⟨z, List.mem_cons_of_mem _ hz, e⟩
  refine ⟨fun y hy => h.len y (List.mem_cons_of_mem _ hy), fun y hy => h.rg y (List.mem_cons_of_mem _ hy), fun y hy => h.plc y (List.mem_cons_of_mem _ hy), (List.nodup_cons.mp h.nd).2, ⟨fun y hy => h.leads.self y (m y hy), fun y hy z hz => h.leads.other y (m y hy) z (m z hz)⟩, fun y hy => h.ahead y (m y hy), fun u => ?_⟩
  refine Lot.iff (fun v hv => ?_) (fun v hv => ?_) u
  · obtain ⟨y, hy, rfl⟩ := hv
    obtain ⟨z, hz, rfl⟩ := mem_vecs.mp hy
    exact .of ⟨z.2, List.mem_map.mpr ⟨z, hz, rfl⟩, rfl⟩
  · obtain ⟨f, hf, rfl⟩ := hv
    obtain ⟨z, hz, rfl⟩ := List.mem_map.mp hf
    exact .of ⟨(z.1, vec z.2), mem_vecs.mpr ⟨z, hz, rfl⟩, rfl⟩
theorem PL.len_le {p : Int} {n : Nat} {fs gs : List (List Int)} {L M : List (Nat × List Int)} (p1 : 1 < p) (inv : ∀ u, 0 < u → u < p → ∃ c, c * u % p = 1) (hL : PL p n fs L) (hM : PL p n gs M) (e : ∀ u, Lot p (spn fs) u → Lot p (spn gs) u) : L.length ≤ M.length := by
  have := few_le p1 inv hL (M.map (·.1)) fun v lv z => by
    have lz := (hM.lot _).mpr (e v lv)
    exact ((lot_iff hM.leads hM.ndv).mp lz).symm.trans (own_none fun x hx => by
      obtain ⟨y, hy, rfl⟩ := mem_vecs.mp hx
      exact z _ (List.mem_map.mpr ⟨y, hy, rfl⟩))
  simpa using this
/-- still behind an exchange that a still row tells: still ahead, and 0 there -/
theorem still_back {p : Int} {hs : List Int} {ss : List RowP} {x v : Vc} {k : Nat} (p1 : 1 < p) (inv : ∀ u, 0 < u → u < p → ∃ c, c * u % p = 1) (b : Bits hs) (g : Lag p hs.length ss) (hk : k < hs.length) (stx : Stl p hs ss x) (x1 : Cg p (x (rdp hs k)) 1) (h : Stl p (flipL hs [k]) ss v) : Stl p hs ss v ∧ Cg p (v (rdp hs k)) 0 := by
  obtain ⟨l1, h0⟩ := h
  rw [flip_len] at h0
  have vx : Cg p (v (rdp hs k)) 0 := by
    have := h0 _ hk
    rw [flip1_self b hk] at this
    exact this
  refine ⟨⟨l1, fun j hj => ?_⟩, vx⟩
  by_cases e : j = k
  · have fa := lot_fairV g l1 stx.1
    rw [fair_sd (hs := hs)] at fa
    have one := sum_one (p := p) (j := k) (f := fun i => sdV hs v i * sdV hs x (hs.length + i) - sdV hs x i * sdV hs v (hs.length + i)) hs.length hk fun i hi ne => by
      have z2 : Cg p (sdV hs x i) 0 := by
        rw [sd_plc hi]
        exact stx.2 i hi
      have z1 : Cg p (sdV hs v i) 0 := by
        rw [sd_plc hi, ← flip1_other b hi ne]
        exact h0 i hi
      have a2 := z1.mul (Cg.rfl' (p := p) (a := sdV hs x (hs.length + i)))
      have b2 := z2.mul (Cg.rfl' (p := p) (a := sdV hs v (hs.length + i)))
      rw [Int.zero_mul] at a2 b2
      exact a2.sub b2
    have t := one.symm.trans fa
    have z2 : Cg p (sdV hs x k) 0 := by
      rw [sd_plc hk]
      exact stx.2 _ hk
    have b2 := z2.mul (Cg.rfl' (p := p) (a := sdV hs v (hs.length + k)))
    rw [Int.zero_mul] at b2
    have t2 : Cg p ((sdV hs v k * sdV hs x (hs.length + k) - sdV hs x k * sdV hs v (hs.length + k)) + sdV hs x k * sdV hs v (hs.length + k)) (0 + 0) := t.add b2
    rw [show ∀ a b : Int, a - b + b = a from fun a b => by omega] at t2
    have nz : ¬ Cg p (sdV hs x (hs.length + k)) 0 := fun w => by
      rw [sd_read hk] at w
      by_cases y : vec hs k = 0
      · rw [if_pos y, Int.one_mul] at w
        exact one_zero p1 (x1.symm.trans w)
      · rw [if_neg y] at w
        obtain ⟨c, hc⟩ := w
        exact one_zero p1 (x1.symm.trans ⟨-c, by grind⟩)
    have r := cancel0 p1 inv nz t2
    rw [sd_plc hk] at r
    rw [e]
    exact r
  · have := h0 j hj
    rw [flip1_other b hj e] at this
    exact this
theorem stl_lot {p : Int} {hs : List Int} {ss : List RowP} {R : Vc → Prop} (h : ∀ v, R v → Stl p hs ss v) {u : Vc} (k : Lot p R u) : Stl p hs ss u :=
  ⟨Lot.sub (fun v hv => (h v hv).1) k, fun j hj => k.at0 fun v hv => (h v hv).2 j hj⟩
theorem mend_drop {p : Int} {hs : List Int} {ss zs : List RowP} {x : Nat × List Int} {M : List (Nat × List Int)} (p1 : 1 < p) (inv : ∀ u, 0 < u → u < p → ∃ c, c * u % p = 1) (b : Bits hs) (g : Lag p hs.length ss) (me : Mend p hs ss (x :: M) zs) : Mend p (flipL hs [x.1 / 2]) ss M (M.map fun y => rowL y.2) := by
  obtain ⟨hk, ex⟩ := me.read p1 (x := x) (by simp)
  have stx := me.row (x := x) (by simp)
  have x1 : Cg p (vec x.2 x.1) 1 := me.pl.leads.self (x.1, vec x.2) (mem_vecs.mpr ⟨x, by simp, rfl⟩)
  have t := me.pl.tail
  have em : (M.map fun y => rowL y.2).map flatR = M.map (·.2) := by
    rw [List.map_map]
    exact List.map_congr_left fun y hy => (rowL_flat hs.length y.2 (t.len y hy)).1
  refine ⟨by rw [em, flip_len]; exact t, fun u => ?_⟩
  rw [em]
  constructor
  · refine stl_lot fun v hv => ?_
    obtain ⟨f, hf, rfl⟩ := hv
    obtain ⟨y, hy, rfl⟩ := List.mem_map.mp hf
    have sty := me.row (x := y) (List.mem_cons_of_mem _ hy)
    have ne : y.1 ≠ x.1 := fun e => by
      have := (List.nodup_cons.mp me.pl.nd).1
      exact this (List.mem_map.mpr ⟨y, hy, e⟩)
    have yx : Cg p (vec y.2 x.1) 0 := me.pl.leads.other (y.1, vec y.2) (mem_vecs.mpr ⟨y, List.mem_cons_of_mem _ hy, rfl⟩) (x.1, vec x.2) (mem_vecs.mpr ⟨x, by simp, rfl⟩) ne
    refine ⟨sty.1, fun j hj => ?_⟩
    rw [flip_len] at hj
    by_cases e : j = x.1 / 2
    · rw [e, flip1_self b hk, ← ex]
      exact yx
    · rw [flip1_other b hj e]
      exact sty.2 j hj
  · intro h
    obtain ⟨h1, h2⟩ := still_back p1 inv b g hk stx (by rw [← ex]; exact x1) h
    rw [← ex] at h2
    have lz := (me.pl.lot _).mpr ((me.lot u).mpr h1)
    have o := (lot_iff me.pl.leads me.pl.ndv).mp lz
    refine (t.lot _).mp (.eqv (own_lot (u := u) (vecs M) (R := rowsOf (vecs M)) fun y hy => ⟨y, hy, rfl⟩) fun i => ?_)
    refine Cg.trans ?_ (o i)
    show Cg p (own u (vecs M) i) (u x.1 * vec x.2 i + own u (vecs M) i)
    have := (h2.mul (Cg.rfl' (p := p) (a := vec x.2 i))).add (Cg.rfl' (p := p) (a := own u (vecs M) i))
    rw [Int.zero_mul, Int.zero_add] at this
    exact this.symm
/-- one number for what a corner lacks: as much as is still -/
theorem lacks_mend {p : Int} {h1 h2 : List Int} {g : List (List Int)} {ss zs : List RowP} {M : List (Nat × List Int)} {r : Nat} (p1 : 1 < p) (inv : ∀ u, 0 < u → u < p → ∃ c, c * u % p = 1) (b1 : Bits h1) (b2 : Bits h2) (l : h2.length = h1.length) (sy : Sy g) (sp : ∀ u, Lot p (spn (ss.map flatR)) u ↔ Lot p (spn ((unitsP p h1 g).map flatR)) u)
    (h : Lacks p g ((List.range h1.length).filter fun k => decide (vec h1 k ≠ vec h2 k)) r) (me : Mend p h2 ss M zs) : r = M.length := by
  obtain ⟨L, pl, e⟩ := h.ex
  obtain ⟨fs, M2, plM, lot, lM⟩ := still_corner p1 inv b1 b2 l sy sp pl
  have er : M2.length = r := by
    have : M2.length + L.length = r + L.length := lM.trans e.symm
    omega
  have mp := me.pl
  rw [l] at mp
  rw [← er, PL.len_eq p1 plM mp fun u => (lot u).trans (me.lot u).symm]
/-- ahead of the first post that mending tells no exchange makes it less -/
theorem lacks_ahead {p : Int} {h1 h2 : List Int} {g : List (List Int)} {ss zs : List RowP} {x : Nat × List Int} {M : List (Nat × List Int)} {r j : Nat} (p1 : 1 < p) (inv : ∀ u, 0 < u → u < p → ∃ c, c * u % p = 1) (b1 : Bits h1) (b2 : Bits h2) (l : h2.length = h1.length) (sy : Sy g) (sp : ∀ u, Lot p (spn (ss.map flatR)) u ↔ Lot p (spn ((unitsP p h1 g).map flatR)) u)
    (h : Lacks p g ((List.range h1.length).filter fun k => decide (vec h1 k ≠ vec (flipL h2 [j]) k)) r) (me : Mend p h2 ss (x :: M) zs) (up : Up (x :: M)) (hj : j < x.1 / 2) : M.length + 1 ≤ r := by
  obtain ⟨L, pl, e⟩ := h.ex
  obtain ⟨hk, _⟩ := me.read p1 (x := x) (by simp)
  obtain ⟨fs, M2, plM, lot, lM⟩ := still_corner p1 inv b1 (flip_bits b2) (by rw [flip_len, l]) sy sp pl
  have er : M2.length = r := by
    have : M2.length + L.length = r + L.length := lM.trans e.symm
    omega
  have mp := me.pl
  rw [l] at mp
  have := PL.len_le p1 inv mp plM fun u hu => (lot u).mpr ?_
  · rw [er] at this
    exact this
  · refine stl_lot (fun v hv => ?_) ((me.pl.lot u).mpr hu)
    obtain ⟨y, hy, rfl⟩ := hv
    obtain ⟨z, hz, rfl⟩ := mem_vecs.mp hy
    have stz := me.row hz
    have le : x.1 ≤ z.1 := by
      rcases List.mem_cons.mp hz with e | m
      · rw [e]; exact Nat.le_refl _
      · exact Nat.le_of_lt ((List.pairwise_cons.mp (show ((x :: M).map (·.1)).Pairwise (· < ·) from up)).1 _ (List.mem_map.mpr ⟨z, m, rfl⟩))
    refine ⟨stz.1, fun i hi => ?_⟩
    rw [flip_len] at hi
    by_cases e : i = j
    · rw [e, flip1_self b2 (by omega)]
      refine me.pl.ahead _ hy _ ?_
      show rdp h2 j < z.1
      unfold rdp
      split <;> omega
    · rw [flip1_other b2 hi e]
      exact stz.2 i hi
theorem flip_flip {hs : List Int} {A : List Nat} {k : Nat} (h : k ∉ A) : flipL (flipL hs A) [k] = flipL hs (A ++ [k]) := by
  show (List.range (flipL hs A).length).map _ = (List.range hs.length).map _
  rw [flip_len]
  refine List.map_congr_left fun j hj => ?_
  rw [flip_at (List.mem_range.mp hj)]
  by_cases e : j = k
  · subst e
    rw [if_pos (by simp), if_neg h, if_pos (by simp)]
  · rw [if_neg (by simpa using e)]
    by_cases m : j ∈ A
    · rw [if_pos m, if_pos (by simp [m])]
    · rw [if_neg m, if_neg (by simp [m, e])]
theorem flip_nil {hs : List Int} : flipL hs [] = hs := by
  refine List.ext_getElem? fun j => ?_
  by_cases h : j < hs.length
  · unfold flipL
    rw [List.getElem?_map, List.getElem?_range h]
    show some (if j ∈ [] then _ else vec hs j) = _
    rw [if_neg (by simp), List.getElem?_eq_getElem h, vec_some (List.getElem?_eq_getElem h)]
  · rw [List.getElem?_eq_none (by rw [flip_len]; omega), List.getElem?_eq_none (by omega)]
end Lin
set_option linter.all false
/-! the first hold that stands; rows in a lot of units -/
namespace Lin
theorem lex_first : ∀ {a b : List Int}, a.length = b.length → LexB a b → ∃ j, j < a.length ∧ vec a j < vec b j ∧ ∀ i, i < j → vec a i = vec b i
  | x :: a, y :: b, l, h => by
    rcases h with h | ⟨e, h⟩
    · exact ⟨0, by simp, h, fun i hi => by omega⟩
    · obtain ⟨j, h1, h2, h3⟩ := lex_first (by simpa using l) h
      refine ⟨j + 1, by simpa using h1, by rw [vec_succ, vec_succ]; exact h2, fun i hi => ?_⟩
      cases i with
      | zero => exact e
      | succ i => rw [vec_succ, vec_succ]; exact h3 i (by omega)
  | [], _, _, h => h.elim
  | _ :: _, [], _, h => h.elim
theorem vec_rev {h : List Int} {i : Nat} (hi : i < h.length) : vec h.reverse i = vec h (h.length - 1 - i) := by
  show h.reverse.getD i 0 = h.getD _ 0
  rw [List.getD_eq_getElem?_getD, List.getD_eq_getElem?_getD, List.getElem?_reverse hi]
theorem vec_rep0 {m i : Nat} : vec (List.replicate m (0 : Int)) i = 0 := by
  show (List.replicate m (0 : Int)).getD i 0 = 0
  rw [List.getD_eq_getElem?_getD, List.getElem?_replicate]
  split <;> rfl
/-- no hold that stands is ahead of the one to which mending from noughts, last post first, comes -/
theorem first_std {p : Int} {m : Nat} {ss z0 : List RowP} {M : List (Nat × List Int)} {h2 : List Int} (p1 : 1 < p) (fit : ∀ r ∈ ss, r.length = m) (me : Mend p (List.replicate m 0) (ss.map List.reverse) M z0) (l2 : h2.length = m) (b2 : Bits h2) (st : Std p h2 ss)
    (lx : LexB h2 (flipL (List.replicate m 0) ((M.map fun x => x.1 / 2).map fun k => m - 1 - k))) : False := by
  have zl : (List.replicate m (0 : Int)).length = m := by simp
  have hl : (flipL (List.replicate m 0) ((M.map fun x => x.1 / 2).map fun k => m - 1 - k)).length = m := by rw [flip_len, zl]
  obtain ⟨j, h1, lt, eq⟩ := lex_first (by rw [l2, hl]) lx
  rw [l2] at h1
  have fa : ∀ i, i < m → vec (flipL (List.replicate m 0) ((M.map fun x => x.1 / 2).map fun k => m - 1 - k)) i = if i ∈ (M.map fun x => x.1 / 2).map fun k => m - 1 - k then 1 else 0 := fun i hi => by
    rw [flip_at (by rw [zl]; exact hi), vec_rep0]
    split <;> rfl
  rw [fa j h1] at lt
  have bj := b2.at j
  have mj : j ∈ (M.map fun x => x.1 / 2).map fun k => m - 1 - k := Classical.byContradiction fun n => by
    rw [if_neg n] at lt
    omega
  rw [if_pos mj] at lt
  have j0 : vec h2 j = 0 := by omega
  obtain ⟨k0, hk, ek⟩ := List.mem_map.mp mj
  obtain ⟨x, hx, rfl⟩ := List.mem_map.mp hk
  obtain ⟨xk, ex⟩ := me.read p1 hx
  rw [zl] at xk
  have e1 : x.1 = 2 * (x.1 / 2) + 1 := by
    have : rdp (List.replicate m 0) (x.1 / 2) = 2 * (x.1 / 2) + 1 := by
      unfold rdp
      rw [vec_rep0, if_pos rfl]
    omega
  have str : Std p h2.reverse (ss.map List.reverse) := by
    refine std_rev (hs := h2.reverse) (fun r hr => ?_) ?_
    · obtain ⟨s, hs, rfl⟩ := List.mem_map.mp hr
      rw [List.length_reverse, List.length_reverse, fit s hs, l2]
    · rw [List.reverse_reverse, rev_rev]
      exact st
  have row := me.row hx
  have z := str (vec x.2) row.1 fun i hi => ?_
  · have o := me.pl.leads.self (x.1, vec x.2) (mem_vecs.mpr ⟨x, hx, rfl⟩)
    exact one_zero p1 (o.symm.trans (z x.1))
  · rw [List.length_reverse, l2] at hi
    have ri := vec_rev (h := h2) (i := i) (by omega)
    rw [l2] at ri
    have ahead : ∀ q, q < x.1 → Cg p (vec x.2 q) 0 := fun q hq => me.pl.ahead (x.1, vec x.2) (mem_vecs.mpr ⟨x, hx, rfl⟩) q hq
    have push : ∀ i, i < m → Cg p (vec x.2 (2 * i)) 0 := fun i hi => by
      have := row.2 i (by rw [zl]; exact hi)
      unfold plc at this
      rw [vec_rep0, if_pos rfl] at this
      exact this
    unfold plc
    rw [ri]
    rcases Nat.lt_trichotomy i (x.1 / 2) with c | c | c
    · split
      · exact ahead _ (by omega)
      · exact ahead _ (by omega)
    · rw [if_pos (by rw [← j0]; congr 1; omega)]
      exact push i hi
    · have eqi := eq (m - 1 - i) (by omega)
      rw [fa (m - 1 - i) (by omega)] at eqi
      by_cases mi : m - 1 - i ∈ (M.map fun x => x.1 / 2).map fun k => m - 1 - k
      · rw [if_pos mi] at eqi
        rw [if_neg (by rw [eqi]; decide)]
        obtain ⟨k1, hk1, ek1⟩ := List.mem_map.mp mi
        obtain ⟨y, hy, rfl⟩ := List.mem_map.mp hk1
        obtain ⟨yk, ey⟩ := me.read p1 hy
        rw [zl] at yk
        have e2 : y.1 = 2 * (y.1 / 2) + 1 := by
          have : rdp (List.replicate m 0) (y.1 / 2) = 2 * (y.1 / 2) + 1 := by
            unfold rdp
            rw [vec_rep0, if_pos rfl]
          omega
        have ei : y.1 = 2 * i + 1 := by omega
        rw [← ei]
        exact me.pl.leads.other (x.1, vec x.2) (mem_vecs.mpr ⟨x, hx, rfl⟩) (y.1, vec y.2) (mem_vecs.mpr ⟨y, hy, rfl⟩) (by show x.1 ≠ y.1; omega)
      · rw [if_neg mi] at eqi
        rw [if_pos eqi]
        exact push i hi
/-- the held numbers of a row -/
def heldL (hs : List Int) (r : RowP) : List Int := List.zipWith (fun h u => if h = 0 then u.1 else u.2) hs r
theorem held_len {hs : List Int} {r : RowP} (l : r.length = hs.length) : (heldL hs r).length = hs.length := by
  unfold heldL
  rw [List.length_zipWith, l, Nat.min_self]
theorem held_vec {hs : List Int} {r : RowP} {j : Nat} (l : r.length = hs.length) (hj : j < hs.length) : vec (heldL hs r) j = vec (flatR r) (plc hs j) := by
  have := zip_vec (f := fun h u => if h = 0 then u.1 else u.2) l hj
  obtain ⟨a, b⟩ := vec_flatP r j
  show vec (List.zipWith _ hs r) j = _
  rw [this]
  unfold plc
  split
  · exact a.symm
  · exact b.symm
/-- a row of the lot is the stand of its held numbers -/
theorem lot_stand {p : Int} {hs : List Int} {gs : List (List Int)} {r : RowP} (p1 : 1 < p) (inr : InP p r) (l : r.length = hs.length) (h : Lot p (spn ((unitsP p hs gs).map flatR)) (vec (flatR r))) : stP p hs gs (heldL hs r) = r := by
  obtain ⟨a, ha⟩ := units_lot.mp h
  have rg : Rg p (heldL hs r) := fun u hu => by
    unfold heldL at hu
    obtain ⟨i, hi, rfl⟩ := List.mem_iff_getElem.mp hu
    rw [List.getElem_zipWith]
    have := inr _ (List.getElem_mem (show i < r.length by rw [List.length_zipWith] at hi; omega))
    split
    · exact this.1
    · exact this.2
  refine row_eq (p := p) (m := hs.length) (by omega) (st_in (by omega) rg) inr st_len l ?_
  refine Eqv.trans st_vec (Eqv.trans (stV_cg fun k hk => ?_) ha.symm)
  rw [held_vec l hk]
  have := sd_eqv (hs := hs) ha k
  rw [sd_plc hk, (sd_stV hk).1] at this
  exact this
end Lin
set_option linter.all false
/-! one post or two that can be exchanged: the table's own numbers tell -/
namespace Lin
theorem std_flip {p : Int} {h : List Int} {g : List (List Int)} {D : List Nat} (b : Bits h) : Std p (flipL h D) (unitsP p h g) ↔ ∀ a : Vc, (∀ k, k < h.length → k ∉ D → Cg p (a k) 0) → (∀ k, k < h.length → k ∈ D → Cg p (toldV g a h.length k) 0) → ∀ k, k < h.length → Cg p (a k) 0 := by
  have held : ∀ (a : Vc) (k : Nat), k < h.length → stV h g h.length a (plc h k) = a k := fun a k hk => by
    have := (sd_stV (hs := h) (gs := g) (a := a) (j := k) hk).1
    rw [sd_plc hk] at this
    exact this
  have readv : ∀ (a : Vc) (k : Nat), k < h.length → (if vec h k = 0 then 1 else -1) * stV h g h.length a (rdp h k) = toldV g a h.length k := fun a k hk => by
    have := (sd_stV (hs := h) (gs := g) (a := a) (j := k) hk).2
    rw [sd_read hk] at this
    exact this
  have sgn : ∀ k, (if vec h k = 0 then (1 : Int) else -1) = 1 ∨ (if vec h k = 0 then (1 : Int) else -1) = -1 := fun k => by
    split
    · exact .inl rfl
    · exact .inr rfl
  constructor
  · intro st a off on k hk
    have e := st (stV h g h.length a) (units_lot.mpr ⟨a, Eqv.refl⟩) (fun k hk => by
      rw [flip_len] at hk
      rw [plc_flip b hk]
      by_cases z : k ∈ D
      · rw [if_pos z]
        have := on k hk z
        rw [← readv a k hk] at this
        exact (cg_neg1 (sgn k)).mp this
      · rw [if_neg z, held a k hk]
        exact off k hk z)
    have := e (plc h k)
    rw [held a k hk] at this
    exact this
  · intro all u lu z
    obtain ⟨a, ha⟩ := units_lot.mp lu
    have az := all a (fun k hk nk => by
      have := z k (by rw [flip_len]; exact hk)
      rw [plc_flip b hk, if_neg nk] at this
      have e := (ha (plc h k)).symm.trans this
      rw [held a k hk] at e
      exact e) (fun k hk ik => by
      have := z k (by rw [flip_len]; exact hk)
      rw [plc_flip b hk, if_pos ik] at this
      have e := (ha (rdp h k)).symm.trans this
      rw [← readv a k hk]
      exact (cg_neg1 (sgn k)).mpr e)
    intro i
    refine (ha i).trans ?_
    have := stV_cg (hs := h) (gs := g) (m := h.length) (a := a) (b := fun _ => 0) (fun k hk => az k hk) i
    rw [stV_zero] at this
    exact this
theorem told_on {p : Int} {g : List (List Int)} {a : Vc} {m : Nat} {D : List Nat} {j : Nat} (pw : D.Pairwise (· < ·)) (lt : ∀ x ∈ D, x < m) (off : ∀ k, k < m → k ∉ D → Cg p (a k) 0) : Cg p (toldV g a m j) (D.map fun k => a k * col g j k).sum := by
  show Cg p (dot a (col g j) m) _
  rw [← sum_range]
  have e : (List.range m).filter (fun k => decide (k ∈ D)) = D := pw_ext (R := fun x y : Nat => x < y) (fun _ _ h1 h2 => by omega) (List.pairwise_lt_range.filter _) pw fun k => by
    rw [List.mem_filter, List.mem_range, decide_eq_true_iff]
    exact ⟨fun h => h.2, fun h => ⟨lt k h, h⟩⟩
  have s := sum_filter (p := p) (f := fun k => a k * col g j k) (P := fun k => decide (k ∈ D)) (List.range m) fun k hk nk => by
    have := (off k (List.mem_range.mp hk) (of_decide_eq_false nk)).mul (Cg.rfl' (p := p) (a := col g j k))
    rw [Int.zero_mul] at this
    exact this
  rw [e] at s
  exact s
/-- one post can be exchanged just where the table's own number there is not nought -/
theorem std_one {p : Int} {h : List Int} {g : List (List Int)} {x : Nat} (p1 : 1 < p) (inv : ∀ u, 0 < u → u < p → ∃ c, c * u % p = 1) (b : Bits h) (hx : x < h.length) : Std p (flipL h [x]) (unitsP p h g) ↔ ¬ Cg p (col g x x) 0 := by
  have one : ∀ a : Vc, (∀ k, k < h.length → k ∉ [x] → Cg p (a k) 0) → Cg p (toldV g a h.length x) (a x * col g x x) := fun a off => by
    have := told_on (p := p) (g := g) (a := a) (m := h.length) (D := [x]) (j := x) (by simp) (by simpa using hx) off
    simpa using this
  rw [std_flip b]
  constructor
  · intro all z
    have off : ∀ k, k < h.length → k ∉ [x] → Cg p ((fun k => if k = x then (1 : Int) else 0) k) 0 := fun k _ nk => by
      show Cg p (if k = x then (1 : Int) else 0) 0
      rw [if_neg (by simpa using nk)]
      exact Cg.rfl'
    have := all (fun k => if k = x then 1 else 0) off (fun k _ ik => by
      have e : k = x := by simpa using ik
      subst e
      refine (one _ off).trans ?_
      rw [if_pos rfl, Int.one_mul]
      exact z) x hx
    rw [if_pos rfl] at this
    have := cg_small (p := p) (a := 1) (b := 0) ⟨by decide, p1⟩ ⟨by decide, by omega⟩ this
    omega
  · intro nz a off on k hk
    by_cases e : k = x
    · subst e
      exact cancel0 p1 inv nz ((one a off).symm.trans (on k hk (by simp)))
    · exact off k hk (by simpa using e)
/-- two posts whose own numbers are nought can be exchanged just where the number that they share is not -/
theorem std_two {p : Int} {h : List Int} {g : List (List Int)} {x y : Nat} (p1 : 1 < p) (inv : ∀ u, 0 < u → u < p → ∃ c, c * u % p = 1) (b : Bits h) (sy : Sy g) (xy : x < y) (hy : y < h.length) (zx : Cg p (col g x x) 0) (zy : Cg p (col g y y) 0) : Std p (flipL h [x, y]) (unitsP p h g) ↔ ¬ Cg p (col g x y) 0 := by
  have hx : x < h.length := by omega
  have pw : [x, y].Pairwise (· < ·) := by simpa using xy
  have lt : ∀ z ∈ [x, y], z < h.length := fun z hz => by
    rcases (by simpa using hz : z = x ∨ z = y) with rfl | rfl <;> assumption
  have atx : ∀ a : Vc, (∀ k, k < h.length → k ∉ [x, y] → Cg p (a k) 0) → Cg p (toldV g a h.length x) (a y * col g x y) := fun a off => by
    have := told_on (p := p) (g := g) (a := a) (m := h.length) (D := [x, y]) (j := x) pw lt off
    simp only [List.map_cons, List.map_nil, List.sum_cons, List.sum_nil, Int.add_zero] at this
    refine this.trans ?_
    have := ((Cg.rfl' (p := p) (a := a x)).mul zx).add (Cg.rfl' (p := p) (a := a y * col g x y))
    rw [Int.mul_zero, Int.zero_add] at this
    exact this
  have aty : ∀ a : Vc, (∀ k, k < h.length → k ∉ [x, y] → Cg p (a k) 0) → Cg p (toldV g a h.length y) (a x * col g x y) := fun a off => by
    have := told_on (p := p) (g := g) (a := a) (m := h.length) (D := [x, y]) (j := y) pw lt off
    simp only [List.map_cons, List.map_nil, List.sum_cons, List.sum_nil, Int.add_zero] at this
    refine this.trans ?_
    have := (Cg.rfl' (p := p) (a := a x * col g y x)).add ((Cg.rfl' (p := p) (a := a y)).mul zy)
    rw [Int.mul_zero, Int.add_zero] at this
    rw [sy x y] at this ⊢
    exact this
  rw [std_flip b]
  constructor
  · intro all z
    have off : ∀ k, k < h.length → k ∉ [x, y] → Cg p ((fun k => if k = x then (1 : Int) else 0) k) 0 := fun k _ nk => by
      show Cg p (if k = x then (1 : Int) else 0) 0
      rw [if_neg fun e => nk (by rw [e]; simp)]
      exact Cg.rfl'
    have := all (fun k => if k = x then 1 else 0) off (fun k _ ik => by
      rcases (by simpa using ik : k = x ∨ k = y) with rfl | rfl
      · refine (atx _ off).trans ?_
        rw [if_neg (by omega), Int.zero_mul]
        exact Cg.rfl'
      · refine (aty _ off).trans ?_
        rw [if_pos rfl, Int.one_mul]
        exact z) x hx
    rw [if_pos rfl] at this
    have := cg_small (p := p) (a := 1) (b := 0) ⟨by decide, p1⟩ ⟨by decide, by omega⟩ this
    omega
  · intro nz a off on k hk
    by_cases e : k = x
    · subst e
      exact cancel0 p1 inv nz ((aty a off).symm.trans (on y hy (by simp)))
    · by_cases e2 : k = y
      · subst e2
        exact cancel0 p1 inv nz ((atx a off).symm.trans (on x hx (by simp)))
      · exact off k hk (by simp [e, e2])
end Lin
set_option linter.all false
/-! lots that are their own mirror: rows put in another order, posts that go by ties, turned over, beside one another -/
namespace Lin
theorem sum_perm {l k : List Int} (h : l.Perm k) : l.sum = k.sum := by
  induction h with
  | nil => rfl
  | cons x _ ih => rw [List.sum_cons, List.sum_cons, ih]
  | swap x y l => rw [List.sum_cons, List.sum_cons, List.sum_cons, List.sum_cons]; omega
  | trans _ _ a b => rw [a, b]
/-- a list's own plain rows -/
theorem pl_ex {p : Int} {n : Nat} (p1 : 1 < p) (inv : ∀ u, 0 < u → u < p → ∃ c, c * u % p = 1) {fs : List (List Int)} (ok : ∀ f ∈ fs, f.length = n ∧ Rg p f) : ∃ L, PL p n fs L := by
  obtain ⟨es, a, b, c⟩ := extend (p := p) fs []
  obtain ⟨M, h, _⟩ := FreeOver.pl p1 inv (PL.nil (p := p) (n := n)) b fun f hf => ok f (a f hf)
  refine ⟨M, h.over fun u => Lot.iff (fun v hv => ?_) (fun v hv => ?_) u⟩
  · obtain ⟨f, hf, rfl⟩ := hv
    exact .of ⟨f, a f (by simpa using hf), rfl⟩
  · obtain ⟨f, hf, rfl⟩ := hv
    exact c f hf
/-- rows of m posts, fair, whose lot has all that meets them with 0 -/
structure Own (p : Int) (m : Nat) (ss : List RowP) : Prop where
  fit : ∀ r ∈ ss, InP p r ∧ r.length = m
  fair : ∀ r ∈ ss, ∀ s ∈ ss, Cg p (dot (crs (vec (flatR r))) (vec (flatR s)) (2 * m)) 0
  full : ∀ w, Sup (2 * m) w → (∀ r ∈ ss, Cg p (dot (crs (vec (flatR r))) w (2 * m)) 0) → Lot p (spn (ss.map flatR)) w
def cut (n : Nat) (w : Vc) : Vc := fun i => if i < n then w i else 0
theorem cut_sup {n : Nat} {w : Vc} : Sup n (cut n w) := fun i h => if_neg (by omega)
theorem cut_eqv {p : Int} {n : Nat} {w : Vc} (h : ∀ i, n ≤ i → Cg p (w i) 0) : Eqv p (cut n w) w := fun i => by
  unfold cut
  by_cases hi : i < n
  · rw [if_pos hi]
    exact Cg.rfl'
  · rw [if_neg hi]
    exact (h i (by omega)).symm
theorem dot_cut {n : Nat} {u w : Vc} : dot u (cut n w) n = dot u w n := dot_ext n (fun _ _ => rfl) fun i h => if_pos h
theorem spn_mem {p : Int} {ss : List RowP} {r : RowP} (h : r ∈ ss) : Lot p (spn (ss.map flatR)) (vec (flatR r)) := .of ⟨_, List.mem_map.mpr ⟨r, h, rfl⟩, rfl⟩
theorem spn_ind {p : Int} {ss : List RowP} {S : Vc → Prop} (h : ∀ r ∈ ss, Lot p S (vec (flatR r))) {u : Vc} (k : Lot p (spn (ss.map flatR)) u) : Lot p S u := by
  refine Lot.sub (fun v hv => ?_) k
  obtain ⟨f, hf, rfl⟩ := hv
  obtain ⟨r, hr, rfl⟩ := List.mem_map.mp hf
  exact h r hr
theorem Own.fairV {p : Int} {m : Nat} {ss : List RowP} (h : Own p m ss) {u v : Vc} (hu : Lot p (spn (ss.map flatR)) u) (hv : Lot p (spn (ss.map flatR)) v) : Cg p (dot (crs u) v (2 * m)) 0 := by
  refine dot_lotR hv fun w hw => ?_
  obtain ⟨f, hf, rfl⟩ := hw
  obtain ⟨s, hs, rfl⟩ := List.mem_map.mp hf
  have a := crs_lot hu
  refine dot_lotL a fun w hw => ?_
  obtain ⟨x, ⟨g, hg, rfl⟩, rfl⟩ := hw
  obtain ⟨r, hr, rfl⟩ := List.mem_map.mp hg
  exact h.fair r hr s hs
theorem Own.iff {p : Int} {m : Nat} {ss : List RowP} (h : Own p m ss) {w : Vc} (sw : ∀ i, 2 * m ≤ i → Cg p (w i) 0) : Lot p (spn (ss.map flatR)) w ↔ ∀ r ∈ ss, Cg p (dot (crs (vec (flatR r))) w (2 * m)) 0 := by
  constructor
  · exact fun k r hr => h.fairV (spn_mem hr) k
  · intro k
    exact .eqv (h.full (cut (2 * m) w) cut_sup fun r hr => by rw [dot_cut]; exact k r hr) (cut_eqv sw)
theorem Own.out {p : Int} {m : Nat} {ss : List RowP} (h : Own p m ss) {u : Vc} (k : Lot p (spn (ss.map flatR)) u) {i : Nat} (hi : 2 * m ≤ i) : Cg p (u i) 0 := lot_out (fun r hr => (h.fit r hr).2) k hi
theorem Own.over {p : Int} {m : Nat} {ss ts : List RowP} (h : Own p m ss) (fit : ∀ r ∈ ts, InP p r ∧ r.length = m) (e : ∀ u, Lot p (spn (ts.map flatR)) u ↔ Lot p (spn (ss.map flatR)) u) : Own p m ts := by
  refine ⟨fit, fun r hr s hs => h.fairV ((e _).mp (spn_mem hr)) ((e _).mp (spn_mem hs)), fun w sw k => (e w).mpr (h.full w sw fun r hr => ?_)⟩
  have a : Lot p (spn (ts.map flatR)) (vec (flatR r)) := (e _).mpr (spn_mem hr)
  refine dot_lotL (crs_lot a) fun v hv => ?_
  obtain ⟨x, ⟨g, hg, rfl⟩, rfl⟩ := hv
  obtain ⟨t, ht, rfl⟩ := List.mem_map.mp hg
  exact k t ht
theorem meet_cg {p : Int} {m : Nat} {r s : RowP} (l1 : r.length = m) (l2 : s.length = m) : (List.zipWith (fun u v => u.1 * v.2 - v.1 * u.2) r s).sum = dot (crs (vec (flatR r))) (vec (flatR s)) (2 * m) := by
  rw [meet_dot (by omega), l1]
theorem own_units {p : Int} {hs : List Int} {gs : List (List Int)} (p1 : 1 < p) (sy : Sy gs) : Own p hs.length (unitsP p hs gs) := by
  refine ⟨units_fit p1, fun r hr s hs' => ?_, fun w sw k => ?_⟩
  · rw [← meet_cg (p := p) (units_fit p1 r hr).2 (units_fit p1 s hs').2]
    exact units_fair sy r hr s hs'
  · exact units_lot.mpr ⟨_, units_mirror sy (fun i hi => by rw [sw i hi]; exact Cg.rfl') fun j hj => k _ (unit_mem hj)⟩
/-- how many free numbers such a lot has -/
theorem Own.count {p : Int} {m : Nat} {ss : List RowP} (p1 : 1 < p) (inv : ∀ u, 0 < u → u < p → ∃ c, c * u % p = 1) (h : Own p m ss) {K : List (Nat × List Int)} (pl : PL p (2 * m) (ss.map flatR) K) : K.length = m := by
  have p0 : 0 < p := by omega
  obtain ⟨L, hL⟩ := pl_ex (p := p) (n := 2 * m) p1 inv (fs := crsF p ss) fun f hf => by
    obtain ⟨r, hr, rfl⟩ := List.mem_map.mp hf
    obtain ⟨a, b⟩ := h.fit r hr
    refine ⟨by rw [flat_len]; unfold crsP; rw [List.length_map, b], flat_rgP (p := p) fun u hu => ?_⟩
    unfold crsP at hu
    obtain ⟨v, hv, rfl⟩ := List.mem_map.mp hu
    exact ⟨⟨Int.emod_nonneg _ (by omega), Int.emod_lt_of_pos _ p0⟩, (a v hv).1⟩
  let fs := (List.range (2 * m)).filter fun f => decide (f ∉ L.map (·.1))
  let vs : List (List Int) := fs.map fun f => (List.range (2 * m)).map fun i => frV f (vecs L) i % p
  have mf : ∀ f, f ∈ fs ↔ f < 2 * m ∧ f ∉ L.map (·.1) := fun f => by
    show f ∈ List.filter _ _ ↔ _
    rw [List.mem_filter, List.mem_range]
    simp
  have M : Mir p m ss vs := by
    refine mir_of p1 inv hL mf (List.nodup_range.sublist List.filter_sublist) (List.length_map ..) fun i f v e1 e2 => ?_
    have e3 : vs[i]? = some ((List.range (2 * m)).map fun i => frV f (vecs L) i % p) := by
      show (fs.map _)[i]? = _
      rw [List.getElem?_map, e1]
      rfl
    rw [e3] at e2
    cases e2
    have fm := (mf f).mp (List.mem_of_getElem? e1)
    refine ⟨fun j => ?_, by rw [List.length_map, List.length_range], fun u hu => ?_⟩
    · rw [vec_rangeM]
      by_cases hj : j < 2 * m
      · rw [if_pos hj]
        exact Cg.mod _
      · rw [if_neg hj]
        have z : frV f (vecs L) j = 0 := by
          unfold frV un
          rw [if_neg (by omega), cu_out fun x hx => by
            obtain ⟨y, hy, rfl⟩ := mem_vecs.mp hx
            have := hL.plc y hy
            show y.1 ≠ j
            omega]
          rfl
        rw [z]
        exact Cg.rfl'
    · obtain ⟨j, _, rfl⟩ := List.mem_map.mp hu
      exact ⟨Int.emod_nonneg _ (by omega), Int.emod_lt_of_pos _ p0⟩
  have vl : ∀ v ∈ vs, v.length = 2 * m := fun v hv => by
    obtain ⟨f, _, rfl⟩ := List.mem_map.mp hv
    rw [List.length_map, List.length_range]
  have one : ∀ u, Lot p (spn vs) u ↔ Lot p (spn (ss.map flatR)) u := fun u => by
    have go : ∀ w, Sup (2 * m) w → (Lot p (spn vs) w ↔ Lot p (spn (ss.map flatR)) w) := fun w sw => by
      rw [M.ker w sw, h.iff fun i hi => by rw [sw i hi]; exact Cg.rfl']
    constructor
    · intro k
      refine Lot.sub (fun v hv => ?_) k
      obtain ⟨f, hf, rfl⟩ := hv
      exact (go _ (sup_vec (vl f hf))).mp (.of ⟨f, hf, rfl⟩)
    · intro k
      refine spn_ind (fun r hr => ?_) k
      exact (go _ (sup_vec (by rw [flat_len, (h.fit r hr).2]))).mpr (spn_mem hr)
  have c := M.cnt K K pl (pl.over fun u => (one u).symm)
  omega
/-! ### posts taken out of a row -/
def sel (ns : List Nat) (u : Vc) : Vc := fun i => if i < 2 * ns.length then u (2 * ns.getD (i / 2) 0 + i % 2) else 0
def ins (ns : List Nat) (w : Vc) : Vc := fun j => if j / 2 ∈ ns then w (2 * ns.idxOf (j / 2) + j % 2) else 0
def partP (ns : List Nat) (r : RowP) : RowP := ns.map fun k => r.getD k (0, 0)
theorem part_vec {ns : List Nat} {r : RowP} {i : Nat} : vec (flatR (partP ns r)) i = sel ns (vec (flatR r)) i := by
  unfold sel partP
  have a := vec_flatP (ns.map fun k => r.getD k (0, 0)) (i / 2)
  have d : i = 2 * (i / 2) ∨ i = 2 * (i / 2) + 1 := by omega
  by_cases hi : i < 2 * ns.length
  · rw [if_pos hi]
    have g : (ns.map fun k => r.getD k (0, 0)).getD (i / 2) (0, 0) = r.getD (ns.getD (i / 2) 0) (0, 0) := by
      rw [List.getD_eq_getElem?_getD, List.getElem?_map, List.getD_eq_getElem?_getD (l := ns), List.getElem?_eq_getElem (by omega)]
      rfl
    rw [g] at a
    have b := vec_flatP r (ns.getD (i / 2) 0)
    rcases d with d | d
    · have z : i % 2 = 0 := by omega
      rw [z, Nat.add_zero, b.1, ← a.1, ← d]
    · have z : i % 2 = 1 := by omega
      rw [z, b.2, ← a.2, ← d]
  · rw [if_neg hi]
    exact vec_flat_out (m := ns.length) (List.length_map ..) (by omega)
theorem sel_comb {ns : List Nat} {u v : Vc} {c : Int} (i : Nat) : sel ns (fun j => u j + c * v j) i = sel ns u i + c * sel ns v i := by
  unfold sel
  split
  · rfl
  · omega
theorem sel_eqv {p : Int} {ns : List Nat} {u v : Vc} (h : Eqv p u v) : Eqv p (sel ns u) (sel ns v) := fun i => by
  unfold sel
  split
  · exact h _
  · exact Cg.rfl'
theorem sel_zero {ns : List Nat} (i : Nat) : sel ns (fun _ => 0) i = 0 := by
  unfold sel
  split <;> rfl
theorem lot_sel {p : Int} {ns : List Nat} {R S : Vc → Prop} {u : Vc} (h : Lot p R u) (k : ∀ v, R v → Lot p S (sel ns v)) : Lot p S (sel ns u) := by
  induction h with
  | zero => exact .eqv .zero fun i => by rw [sel_zero]; exact Cg.rfl'
  | @add u v c _ hv ih => exact .eqv (Lot.comb c ih (k v hv)) fun i => by rw [sel_comb]; exact Cg.rfl'
  | @eqv u v _ e ih => exact .eqv ih (sel_eqv e)
theorem sel_sup {ns : List Nat} {u : Vc} : Sup (2 * ns.length) (sel ns u) := fun i h => if_neg (by omega)
theorem part_len {ns : List Nat} {r : RowP} : (partP ns r).length = ns.length := List.length_map ..
theorem part_in {p : Int} {ns : List Nat} {r : RowP} (p0 : 0 < p) (h : InP p r) : InP p (partP ns r) := fun u hu => by
  obtain ⟨k, _, rfl⟩ := List.mem_map.mp hu
  show (0 ≤ (r.getD k (0, 0)).1 ∧ _) ∧ _
  rw [List.getD_eq_getElem?_getD]
  cases e : r[k]? with
  | none => exact ⟨⟨Int.le_refl _, p0⟩, Int.le_refl _, p0⟩
  | some v => exact h v (List.mem_of_getElem? e)
theorem sum_at {F : Nat → Int} {ns : List Nat} {m : Nat} (nd : ns.Nodup) (lt : ∀ k ∈ ns, k < m) (z : ∀ k, k < m → k ∉ ns → F k = 0) : ((List.range m).map F).sum = (ns.map F).sum := by
  have a : ((List.range m).map F).sum = (((List.range m).filter fun k => decide (k ∈ ns)).map F).sum := by
    have go : ∀ l : List Nat, (∀ k ∈ l, k < m) → (l.map F).sum = ((l.filter fun k => decide (k ∈ ns)).map F).sum := by
      intro l
      induction l with
      | nil => exact fun _ => rfl
      | cons k l ih =>
        intro h
        have i := ih fun j hj => h j (List.mem_cons_of_mem _ hj)
        rw [List.map_cons, List.sum_cons, i]
        by_cases hk : k ∈ ns
        · rw [List.filter_cons_of_pos (by simpa using hk), List.map_cons, List.sum_cons]
        · rw [List.filter_cons_of_neg (by simpa using hk), z k (h k (by simp)) hk]
          omega
    exact go _ fun k hk => List.mem_range.mp hk
  rw [a]
  refine sum_perm (List.Perm.map F ((List.perm_ext_iff_of_nodup (List.nodup_range.sublist List.filter_sublist) nd).mpr fun k => ?_))
  rw [List.mem_filter, List.mem_range]
  simp only [decide_eq_true_eq]
  exact ⟨fun h => h.2, fun h => ⟨lt k h, h⟩⟩
theorem map_range {α : Type} {f : Nat → α} {ns : List Nat} : ns.map f = (List.range ns.length).map fun x => f (ns.getD x 0) := by
  refine List.ext_getElem? fun i => ?_
  rw [List.getElem?_map, List.getElem?_map]
  by_cases h : i < ns.length
  · rw [List.getElem?_eq_getElem h, List.getElem?_range h]
    show some (f ns[i]) = some (f (ns.getD i 0))
    rw [List.getD_eq_getElem?_getD, List.getElem?_eq_getElem h]
    rfl
  · rw [List.getElem?_eq_none (by omega), List.getElem?_eq_none (by rw [List.length_range]; omega)]
    rfl
theorem idx_at {ns : List Nat} (nd : ns.Nodup) {x : Nat} (h : x < ns.length) : ns.idxOf (ns.getD x 0) = x := by
  have e : ns.getD x 0 = ns[x] := by
    rw [List.getD_eq_getElem?_getD, List.getElem?_eq_getElem h]
    rfl
  rw [e]
  exact nd.idxOf_getElem x h
/-- the meet of a row with one that has noughts at all posts that aren't told -/
theorem dot_ins {ns : List Nat} {m : Nat} {u w : Vc} (nd : ns.Nodup) (lt : ∀ k ∈ ns, k < m) : dot (crs u) (ins ns w) (2 * m) = dot (crs (sel ns u)) w (2 * ns.length) := by
  rw [dot_pairs, dot_pairs, sum_at nd lt, map_range]
  · congr 1
    refine List.map_congr_left fun x hx => ?_
    have hx := List.mem_range.mp hx
    have mem : ns.getD x 0 ∈ ns := by
      rw [List.getD_eq_getElem?_getD, List.getElem?_eq_getElem hx]
      exact List.getElem_mem hx
    have e1 : (2 * ns.getD x 0) / 2 = ns.getD x 0 := by omega
    have e2 : (2 * ns.getD x 0 + 1) / 2 = ns.getD x 0 := by omega
    have e3 : (2 * ns.getD x 0) % 2 = 0 := by omega
    have e4 : (2 * ns.getD x 0 + 1) % 2 = 1 := by omega
    have f1 : (2 * x) / 2 = x := by omega
    have f2 : (2 * x + 1) / 2 = x := by omega
    have f3 : (2 * x) % 2 = 0 := by omega
    have f4 : (2 * x + 1) % 2 = 1 := by omega
    unfold ins sel
    rw [e1, e2, e3, e4, f1, f2, f3, f4, if_pos mem, if_pos mem, if_pos (by omega), if_pos (by omega), idx_at nd hx]
    rfl
  · intro k _ hk
    have e1 : (2 * k) / 2 = k := by omega
    have e2 : (2 * k + 1) / 2 = k := by omega
    unfold ins
    rw [e1, e2, if_neg hk, if_neg hk]
    omega
theorem sel_ins {ns : List Nat} {w : Vc} (nd : ns.Nodup) {i : Nat} (h : i < 2 * ns.length) : sel ns (ins ns w) i = w i := by
  unfold sel
  rw [if_pos h]
  have hx : i / 2 < ns.length := by omega
  have mem : ns.getD (i / 2) 0 ∈ ns := by
    rw [List.getD_eq_getElem?_getD, List.getElem?_eq_getElem hx]
    exact List.getElem_mem hx
  have e1 : (2 * ns.getD (i / 2) 0 + i % 2) / 2 = ns.getD (i / 2) 0 := by omega
  have e2 : (2 * ns.getD (i / 2) 0 + i % 2) % 2 = i % 2 := by omega
  unfold ins
  rw [e1, e2, if_pos mem, idx_at nd hx]
  congr 1
  omega
theorem ins_sup {ns : List Nat} {m : Nat} {w : Vc} (lt : ∀ k ∈ ns, k < m) : Sup (2 * m) (ins ns w) := fun j h => by
  unfold ins
  rw [if_neg fun k => by have := lt _ k; omega]
end Lin
set_option linter.all false
/-! sorted(t) of a tuple of ints -/
namespace So
open PySem PySem.Spec PyProof.Rows L2
section
variable {P : Program} {w : World} {A : Around} {E : Value → Shared → Prop} {s : Shared}
abbrev copied (h : Heap) (vs : List Value) : Heap := (h.push (seqObj "list" #[] 0)).update h.objs.size (Obj.mapSeq (· ++ vs.toArray))
set_option maxHeartbeats 2000000 in
theorem collect_tup {t : Addr} {o : Obj} {n : Nat} {vs : List Value} {Q : List Value → Shared → Prop} (ho : s.heap.get? t = some o) (hc : o.cls = .type "tuple") (hd : o.data = .seq vs.toArray n) (hz : vs.length ≤ sizeLine) (q : Q vs { s with heap := copied s.heap vs }) : wpAny (model P w) A (collect (.ref t)) Q E s := by
  unfold collect
  refine wpAny_bind (wpAny_runValue (codeAny_builtin entry_proto_collect' ?_))
  show wpAny (model P w) _ (do again (.builtin "list.__iadd__" ⟨[← newList [], .ref t], []⟩)) _ _ s
  refine wpAny_bind (wpAny_newList (wpAny_pure ⟨Code.quiet_builtin _ (by decide +kernel), codeAny_builtin entry_list_iadd' ?k⟩))
  case k =>
    show wpAny (model P w) _ (Builtin.List.listExtendWith (.ref s.heap.objs.size) (.ref t) (.ref s.heap.objs.size)) _ _ { s with heap := s.heap.push (seqObj "list" #[] 0) }
    unfold Builtin.List.listExtendWith
    have hp : (s.heap.push (seqObj "list" #[] 0)).get? t = some o := Heap.get?_push_of_some _ ho
    refine wpAny_bind (wpAny_typeOf (T := "tuple") ⟨o, hp, hc⟩ ?_)
    have e2 : (Value.type "tuple" == Value.type "tuple") = true := by rfl
    rw [if_pos (by rw [e2, Bool.or_true])]
    refine wpAny_bind (listItems_at hp hd ?_)
    refine wpAny_bind (listItems_at (xs := #[]) (n := 0) (Heap.get?_push_size _ rfl) rfl ?_)
    rw [if_neg (by simp)]
    have sz : (#[] ++ vs.toArray : Array Value).size ≤ sizeLine + 1 := by
      rw [Array.size_append, List.size_toArray]
      show 0 + vs.length ≤ _
      omega
    refine wpAny_bind (listUpdate_at (xs := #[]) (n := 0) (Heap.get?_push_size _ rfl) rfl ?_ (Nat.zero_le _) sz)
    refine wpAny_pure ?_
    show wpAny (model P w) A (do
        let o ← load s.heap.objs.size
        match o.data with
        | .seq xs _ => pure xs.toList
        | _ => unsupported "internal:collect") Q E { s with heap := copied s.heap vs }
    refine wpAny_bind (wpAny_load (get?_update_seq (Heap.get?_push_size _ rfl) _) ?_)
    show wpAny (model P w) A (pure ((#[] : Array Value) ++ vs.toArray).toList) Q E _
    have e3 : ((#[] : Array Value) ++ vs.toArray).toList = vs := by simp
    rw [e3]
    exact wpAny_pure q
set_option maxHeartbeats 2000000 in
theorem sorted_tup {t : Addr} {o : Obj} {n : Nat} {vs : List Value} {ns : List Int} {Q : Value → Shared → Prop} (ho : s.heap.get? t = some o) (hc : o.cls = .type "tuple") (hd : o.data = .seq vs.toArray n) (hz : vs.length ≤ sizeLine) (hI : IntsAre vs ns)
    (q : ∀ out : List Value, SrtO.Srtd SrtO.ltIv out → SrtO.Stb SrtO.ltIv out vs → Q (.ref (s.heap.objs.size + 1)) { s with heap := sortedAll s.heap vs out.toArray }) : wpAny (model P w) A (call (.builtin "sorted") [.ref t]) Q E s := by
  refine Calls.call_function_entry kind_sorted plain_sorted entry_sorted (args_sorted1 _) ?_
  unfold Builtin.«sorted»
  refine wpAny_bind (m := checkCount "sorted" 1 1 _) (wpAny_pure ?_)
  refine wpAny_bind (collect_tup ho hc hd hz ?_)
  refine wpAny_bind (wpAny_newList ?_ hz)
  have size1 : (copied s.heap vs).objs.size = s.heap.objs.size + 1 := by
    unfold copied
    rw [Heap.size_update, size_push']
  have newL : ((copied s.heap vs).push (seqObj "list" vs.toArray 0)).get? (s.heap.objs.size + 1) = some (seqObj "list" vs.toArray 0) := by
    rw [← size1]
    exact Heap.get?_push_size _ rfl
  show wpAny (model P w) _ _ _ _ { s with heap := (copied s.heap vs).push (seqObj "list" vs.toArray 0) }
  rw [size1]
  refine wpAny_bind (wpAny_holding (wpAny_call_entry slot_list_sort ⟨_, newL, rfl⟩ entry_list_sort (SrtO.list_sort_ord SrtO.swo_int newL hz (fun h2 => SrtO.ints_sortable hI h2) fun out hs hb => ⟨_, rfl, ?_⟩) (args_list_sort _)))
  exact wpAny_pure ⟨_, rfl, q out hs hb⟩
end
def rSortedTI (K : PySem.W.Frag) : List V → Hp → VK → Prop := fun vs H Q => ∃ (a : Addr) (ns : List Int), vs = [V.ref a] ∧ H a = some (.tup (ns.map V.int)) ∧ ∀ (ns' : List Int) (p : Addr), ns'.Perm ns → ns'.Pairwise (· ≤ ·) → H p = none → Q (.ref p) (upd H p (.lst (ns'.map V.int)))
section
variable {X : Cx}
theorem cr_sortedTI : CallR X (.builtin "sorted") (rSortedTI X.K) := by
  intro pins s σ H vs us Q I r h
  obtain ⟨a, ns, rfl, ha, q⟩ := h
  obtain ⟨hz, its, rv, o, ho, hc, n, hd⟩ := I.hok a _ ha
  rw [Vals.ref1 r]
  have hi := rv.ints
  refine sorted_tup ho hc hd (by rw [← rv.length]; exact hz) hi fun out h1 h2 => ?_
  obtain ⟨k1, k2, k3⟩ := SrtO.ints_out hi h1 h2
  obtain ⟨ep, he'⟩ := PyProof.Rows.sortedAll_at s.heap its out.toArray
  have hlen : ((out.map SrtO.iv).map V.int).length ≤ sizeLine := by
    rw [List.length_map, k2.length_eq]
    rwa [List.length_map] at hz
  exact ⟨.ref _, upd H (s.heap.objs.size + 1) (.lst ((out.map SrtO.iv).map V.int)), I.laid (t' := s.toks) (fun _ _ => PyProof.Rows.sortedAll_old) (Nat.le_succ _) ⟨hlen, out, ep, vals_of_ints k1, he'⟩, rfl, q _ _ k2 k3 (I.hok.fresh (Nat.le_succ _))⟩
end
end So
set_option linter.all false
/-! sorted(xs) of a list of data (tuples of tuples among them) -/
namespace Sd
open PySem PySem.Spec PyProof.Rows L2
section
variable {K : PySem.W.Frag} {H : Hp}
theorem dp_zip : ∀ {xs : List V} {ds : List PyData}, DpAll K H xs ds → xs.length = ds.length ∧ ∀ b ∈ xs.zip ds, Dp K H b.1 b.2
  | _, _, .nil => ⟨rfl, fun b hb => by cases hb⟩
  | _, _, .cons h t => by
    obtain ⟨e, r⟩ := dp_zip t
    refine ⟨congrArg Nat.succ e, fun b hb => ?_⟩
    rcases List.mem_cons.mp hb with rfl | hb
    · exact h
    · exact r b hb
theorem zip_dp : ∀ {bs : List (V × PyData)}, (∀ b ∈ bs, Dp K H b.1 b.2) → DpAll K H (bs.map (·.1)) (bs.map (·.2))
  | [], _ => .nil
  | b :: bs, h => .cons (h b (by simp)) (zip_dp fun c hc => h c (List.mem_cons_of_mem _ hc))
theorem each_zip : ∀ {xs : List V} {vs : List Value} {ds : List PyData}, Vals xs vs → xs.length = ds.length → PySem.W.EachIs (fun (v : Value) (b : V × PyData) => RelV b.1 v) vs (xs.zip ds)
  | _, _, [], .nil, _ => .nil
  | _, _, _ :: _, .nil, e => by simp at e
  | _, _, [], .cons _ _, e => by simp at e
  | _, _, d :: ds, .cons r t, e => .cons r (each_zip t (by simpa using e))
theorem each_vals : ∀ {vs : List Value} {bs : List (V × PyData)}, PySem.W.EachIs (fun (v : Value) (b : V × PyData) => RelV b.1 v) vs bs → Vals (bs.map (·.1)) vs
  | _, _, .nil => .nil
  | _, _, .cons r t => .cons r (each_vals t)
end
theorem perm1 {α : Type} {l m : List α} (h : l.Perm m) (k : m.length ≤ 1) : l = m := by
  match m, k, h with
  | [], _, h => exact h.eq_nil
  | [v], _, h => exact List.perm_singleton.mp h
  | _ :: _ :: _, k, _ => exact absurd k (by simp)
theorem pair1 {α : Type} {R : α → α → Prop} {l : List α} (k : l.length ≤ 1) : l.Pairwise R := by
  match l, k with
  | [], _ => exact .nil
  | [v], _ => exact List.pairwise_singleton _ _
  | _ :: _ :: _, k => exact absurd k (by simp)
/-- sorted(xs): one item at most, or data of one form -/
def rSortedD (K : PySem.W.Frag) : List V → Hp → VK → Prop := fun vs H Q => ∃ (a : Addr) (xs : List V) (ds : List PyData), vs = [V.ref a] ∧ SqL K H a xs ∧ DpAll K H xs ds ∧ (xs.length ≤ 1 ∨ (PySem.W.AllAlike ds ∧ PySem.W.Sortable ds)) ∧ (∀ d ∈ ds, d.depth ≤ 60) ∧
  ∀ (bs : List (V × PyData)) (p : Addr), bs.Perm (xs.zip ds) → bs.Pairwise (fun x y => PySem.W.dataLe false Prod.snd x y = true) → DpAll K H (bs.map (·.1)) (bs.map (·.2)) → H p = none → Q (.ref p) (upd H p (.lst (bs.map (·.1))))
section
variable {X : Cx}
set_option maxHeartbeats 2000000 in
theorem cr_sortedD (hu : X.A.units + 64 < cLine) : CallR X (.builtin "sorted") (rSortedD X.K) := by
  intro pins s σ H vs us Q I r h
  obtain ⟨a, xs, ds, rfl, hs, hd, hal, hdep, q⟩ := h
  obtain ⟨its, rv, hl, hz⟩ := I.list hs
  rw [Vals.ref1 r]
  obtain ⟨el, hb⟩ := dp_zip hd
  rcases hal with h1 | ⟨hal, hso⟩
  · refine SrtO.sorted_ord (ltv := fun _ _ => false) ⟨fun _ _ h => (by cases h), fun _ _ _ _ _ => rfl⟩ hl.isList (by rw [← rv.length]; exact hz) (fun h2 => by have := rv.length; omega) fun out _ h2 => ?_
    obtain ⟨ep, he'⟩ := PyProof.Rows.sortedAll_at s.heap its out.toArray
    have eo : out = its := perm1 h2.perm (by have := rv.length; omega)
    subst eo
    have eb : (xs.zip ds).map (·.1) = xs := List.map_fst_zip (by omega)
    have q' := q (xs.zip ds) (s.heap.objs.size + 1) (.refl _) (pair1 (by rw [List.length_zip]; omega)) (zip_dp hb) (I.hok.fresh (Nat.le_succ _))
    rw [eb] at q'
    exact ⟨.ref _, upd H (s.heap.objs.size + 1) (.lst xs), I.laid (t' := s.toks) (fun _ _ => PyProof.Rows.sortedAll_old) (Nat.le_succ _) ⟨hz, _, ep, rv, he'⟩, rfl, q'⟩
  · have e1 := each_zip rv el
    have e2 : (xs.zip ds).map (·.2) = ds := List.map_snd_zip (by omega)
    have er : PySem.W.EachIs (fun v (b : V × PyData) => ∃ as, Reads s.heap v b.2 as) its (xs.zip ds) := (PySem.W.each_mem e1).mono fun v b ⟨h1, h2⟩ => Dp.reads I b.2 b.1 v (hb b h2) h1
    have lz : (xs.zip ds).length = xs.length := by rw [List.length_zip]; omega
    refine PySem.W.sorted_data (enc := Prod.snd) hl.isList e1 er (by rw [e2]; exact hal) (by rw [e2]; exact hso) (by rw [lz]; exact hz) (fun b hm => by have := hdep b.2 (List.of_mem_zip hm).2; omega) fun out ol eo => ?_
    obtain ⟨ep, he'⟩ := PyProof.Rows.sortedAll_at s.heap its out.toArray
    have pm : ((xs.zip ds).mergeSort (PySem.W.dataLe false Prod.snd)).Perm (xs.zip ds) := List.mergeSort_perm _ _
    have hlen : (((xs.zip ds).mergeSort (PySem.W.dataLe false Prod.snd)).map (·.1)).length ≤ sizeLine := by rw [List.length_map, pm.length_eq, lz]; exact hz
    refine ⟨.ref _, upd H (s.heap.objs.size + 1) (.lst (((xs.zip ds).mergeSort (PySem.W.dataLe false Prod.snd)).map (·.1))), I.laid (t' := s.toks) (fun _ _ => PyProof.Rows.sortedAll_old) (Nat.le_succ _) ⟨hlen, out, ep, each_vals eo, he'⟩, rfl, q _ _ pm ?_ (zip_dp fun b hm => hb b (pm.mem_iff.mp hm)) (I.hok.fresh (Nat.le_succ _))⟩
    exact PySem.W.sort_pairwise (PySem.W.sortLe_total _ _ _) _
end
/-! two sorted lists of the same items are one, where items whose keys agree are one -/
theorem sorted_eq {α : Type} {le : α → α → Prop} (anti : ∀ x y, le x y → le y x → x = y) : ∀ {l m : List α}, l.Perm m → l.Pairwise le → m.Pairwise le → l = m
  | [], m, h, _, _ => h.nil_eq
  | x :: l, [], h, _, _ => by have := h.length_eq; simp at this
  | x :: l, y :: m, h, hl, hm => by
    have e : x = y := by
      rcases List.mem_cons.mp (h.mem_iff.mp (List.mem_cons_self (a := x) (l := l))) with e | h1
      · exact e
      · rcases List.mem_cons.mp (h.mem_iff.mpr (List.mem_cons_self (a := y) (l := m))) with e | h2
        · exact e.symm
        · exact anti x y ((List.pairwise_cons.mp hl).1 y h2) ((List.pairwise_cons.mp hm).1 x h1)
    subst e
    rw [sorted_eq anti h.cons_inv (List.pairwise_cons.mp hl).2 (List.pairwise_cons.mp hm).2]
theorem le_toks {d e : PyData} (h1 : PySem.W.dataLe false (fun x : PyData => x) d e = true) (h2 : PySem.W.dataLe false (fun x : PyData => x) e d = true) : PySem.W.keyToks d = PySem.W.keyToks e := by
  rw [PySem.W.dataLe_eq] at h1 h2
  simp only [cond_false, Bool.not_eq_true'] at h1 h2
  exact (listOrd PyProof.Rows.itemOrd).total _ _ h2 h1
end Sd
set_option linter.all false
/-! classes of one's own: x == y, x != y, len(x), str(x) by own methods; raise where it is never reached -/
namespace Cl
open PySem PySem.Spec PyProof.Rows PySem.Calls L2
theorem kit_own {K : PySem.W.Frag} {c : Addr} : PySem.W.kitOne K (.ref c) (.ref c) = some true := by
  unfold PySem.W.kitOne
  rw [if_pos (by simp)]
theorem ps_never {X : Cx} {st : Stmt} : PS X st (fun _ _ _ => False) := ⟨fun _ _ _ _ _ _ h => h.elim⟩
section
variable {X : Cx} {CX : CXT} {k : Nat} {f C : Addr} {fd : FuncData} {ps : List Str} {sp : Sp} {E : XK}
/-- the callee runs, a little deeper -/
theorem run_at {A : Around} {pins : List (Addr × Obj)} {σ : L2.St} {H : Hp} {s : Shared} {Q : VK} {us : List Value} {vs : List V} (F : FnOk X.prog X.w X.K X.mg X.base CX k f fd ps sp) (room : Room k A) (fr : A.frames = X.A.frames) (hb : Binds X.K fd ps []) (hx : Passes CX X E)
    (I : L2.Inv X pins σ H s) (r : Vals vs us) (h : sp vs H Q E) : wpAny (model X.prog X.w) A (call (.ref f) us) (EP X pins σ Q) X.xe s := by
  have e0 : Env0 X.prog X.w X.K X.mg X.base A X.stack s H := by
    have e := I.env0
    exact ⟨by rw [fr]; exact e.frames, e.mod, e.bs, e.bsz, e.funs, e.frf, e.hok, e.bare⟩
  have hl := F.len _ _ _ _ h
  have hl2 := r.length
  refine wpAny_call (codeAny_mono (F.run A X.stack s H ⟨us, []⟩ us vs _ E room e0 (by
    have := hb s us I.kIn (by rw [List.append_nil]; omega)
    rw [List.append_nil] at this
    exact this) r h) fun r s' hq => ?_)
  cases r with
  | error e => exact hx pins σ H s e s' I hq
  | ok fl =>
    cases fl with
    | ret w => exact I.after hq
    | next => exact False.elim hq
    | brk => exact False.elim hq
    | cont => exact False.elim hq
/-- x == y, x and y instances of C -/
def rEqC (C : Addr) (sp : Sp) (E : XK) : R2 := fun x y H Q => ∃ a b dx dy fs gs, x = .ref a ∧ y = .ref b ∧ H a = some (.ins C dx fs) ∧ H b = some (.ins C dy gs) ∧ sp [.ref a, .ref b] H (fun v H' => ∃ t, v = .bl t ∧ Q (.bl t) H') E
theorem op_eqC (hm : Meth X.K C "__eq__" f) (F : FnOk X.prog X.w X.K X.mg X.base CX k f fd ps sp) (hr : Room k X.A) (hb : Binds X.K fd ps []) (hx : Passes CX X E) : OpR X (compareOp .Eq) (rEqC C sp E) := by
  intro pins s σ H x y v u Q I rx ry hq
  obtain ⟨a, b, dx, dy, fs, gs, rfl, rfl, ha, hb', hq⟩ := hq
  cases rx
  cases ry
  obtain ⟨mA, J, _⟩ := ins_get I.hok ha
  obtain ⟨mB, J', _⟩ := ins_get I.hok hb'
  obtain ⟨od, J, _⟩ := J.look
  obtain ⟨od', J', _⟩ := J'.look
  obtain ⟨m, hF⟩ := I.fr
  show wpAny (model X.prog X.w) X.A (richCompare .Eq (.ref a) (.ref b)) (EP X pins σ Q) X.xe s
  refine PySem.W.cmp_K (op := .Eq) (tb := .ref C) hr.units0 hF I.ok.mod.kin J J'.type (by simp [PySem.W.notFirst]) hm.at_ hm.fn ?_
  refine wpAny_mono (run_at (vs := [.ref a, .ref b]) F hr rfl hb hx I (.cons rfl (.cons rfl .nil)) hq) (fun v s' hv => ?_) fun _ _ z => z
  obtain ⟨z, H', I', rz, t, rfl, q⟩ := hv
  cases rz
  exact ⟨.bl t, H', I', rfl, q⟩
theorem ifBound_bi {M : Model} {A : Around} {E : Value → Shared → Prop} {s : Shared} {K : PySem.W.Frag} {x C : Addr} {ox : Obj} {od : Option Obj} {name : Str} {id : String} {args : List Value} {Q : Option Value → Shared → Prop} (X : K.In s.heap) (I : PySem.W.InstAt s.heap x ox C od) (hs : PySem.W.findIn K (.ref C) name = some (some (.builtin id)))
    (hb : ∀ self, bindSpecial (.builtin id) self = pure (.builtin id, [self])) (h : wpAny M A (call (.builtin id) (.ref x :: args)) (fun v => Q (some v)) E s) : wpAny M A (callSpecialIfBound? (.ref x) name args) Q E s := by
  simp only [callSpecialIfBound?, bindSpecialIfBound?]
  refine wpAny_holding (wpAny_bind (wpAny_bind (wpAny_bind (I.type.here ((PySem.W.looks_findIn X hs).here ?_)))))
  refine wpAny_bind (wpAny_askSetting (wpAny_ite ?_))
  have fin : wpAny M A (call (.builtin id) ([.ref x] ++ args) >>= fun v => pure (some v)) Q E s := wpAny_bind (wpAny_mono h (fun v s' h' => wpAny_pure h') fun _ _ h' => h')
  split
  · exact wpAny_bind ((PySem.W.Looks.of_pure (hb _)).here (wpAny_pure (by exact fin)))
  · exact wpAny_tryCatch (wpAny_bind ((PySem.W.Looks.of_pure (hb _)).here (wpAny_pure (by exact fin))))
theorem ne_K {prog : Program} {w : World} {A : Around} {E : Value → Shared → Prop} {s : Shared} {K : PySem.W.Frag} {x y C f : Addr} {ox oy : Obj} {od od' : Option Obj} {Q : Value → Shared → Prop} (hu : A.units + 1 < cLine) (X : K.In s.heap) (I : PySem.W.InstAt s.heap x ox C od) (J : PySem.W.InstAt s.heap y oy C od')
    (hn : PySem.W.findIn K (.ref C) "__ne__" = some (some (.builtin "object.__ne__"))) (hm : PySem.W.mroIn K C (.type "object") = some true) (hs : PySem.W.findIn K (.ref C) "__eq__" = some (some (.ref f))) (hf : PySem.W.isFn K (.ref f) = true)
    (h : wpAny (model prog w) A.in1 (call (.ref f) [.ref x, .ref y]) (fun v s' => ∃ b, v = .bool b ∧ Q (.bool (!b)) s') E s) : wpAny (model prog w) A (richCompare .NotEq (.ref x) (.ref y)) Q E s := by
  have one : wpAny (model prog w) A (tryCompare (.ref x) (cmpInfo .NotEq).2.1 (.ref y)) (fun r s' => ∃ v, r = some v ∧ Q v s') E s := by
    unfold tryCompare
    refine wpAny_bind (ifBound_bi X I hn (fun _ => PySem.F.cmp_object.ne.bind _) (wpAny_call (codeAny_call_builtin PySem.F.cmp_object.ne.plain PySem.F.cmpEntry_ne
      (PySem.W.check_slot (i := "object.__ne__") (owner := "object") (n := "__ne__") PySem.F.cmpKind_ne PySem.F.cmpSplit_ne (I.type.andThen (PySem.W.looks_mroIn X hm)) (PySem.F.cmpArgs_ne _ _) ?_))))
    unfold Builtin.«object.__ne__»
    refine wpAny_bind (wpAny_pure ?_)
    refine wpAny_bind (wpAny_cRoomFor hu ?_)
    refine wpAny_bind (m := callSpecialIfBound? (.ref x) (Str.ofString "__eq__") [.ref y]) (PySem.W.ifBound_K X I hs hf (wpAny_mono h (fun v s' hv => ?_) fun _ _ e => e))
    obtain ⟨b, rfl, hq⟩ := hv
    refine wpAny_bind (m := truthy (.bool b)) (wpAny_truthy_bool ?_)
    exact wpAny_pure (wpAny_pure ⟨_, rfl, hq⟩)
  unfold richCompare
  simp only [oneThing_ref]
  refine wpAny_holding (wpAny_bind (wpAny_cRoomFor (by omega) ?_))
  refine wpAny_bind (I.type.here (wpAny_bind (J.type.here ?_)))
  rw [show (Value.ref C != Value.ref C) = false from by simp]
  simp only [Bool.false_eq_true, if_false]
  refine wpAny_bind (wpAny_pure ?_)
  simp only [Bool.false_eq_true, if_false]
  refine wpAny_bind (wpAny_mono one (fun r s' z => ?_) fun _ _ e => e)
  obtain ⟨v, rfl, hq⟩ := z
  exact wpAny_pure hq
/-- len(x), x an instance of C -/
def rLenC (C : Addr) (sp : Sp) (E : XK) : List V → Hp → VK → Prop := fun xs H Q => ∃ a dx fs, xs = [.ref a] ∧ H a = some (.ins C dx fs) ∧ sp [.ref a] H (fun v H' => ∃ n : Nat, v = .int n ∧ n < 2 ^ 62 ∧ Q (.int n) H') E
theorem call_lenC (hm : Meth X.K C "__len__" f) (F : FnOk X.prog X.w X.K X.mg X.base CX k f fd ps sp) (hr : Room (k + 1) X.A) (hb : Binds X.K fd ps []) (hx : Passes CX X E) : CallR X (.builtin "len") (rLenC C sp E) := by
  intro pins s σ H xs us Q I r h
  obtain ⟨a, dx, fs, rfl, ha, hq⟩ := h
  obtain ⟨u, rfl, rx⟩ := vals1 r
  cases rx
  obtain ⟨mA, J, _⟩ := ins_get I.hok ha
  obtain ⟨od, J, _⟩ := J.look
  obtain ⟨m, hF⟩ := I.fr
  refine PySem.W.len_K hF I.ok.mod.kin J hm.at_ hm.fn ?_
  refine wpAny_mono (run_at (vs := [.ref a]) F hr.in1 rfl hb hx I (.cons rfl .nil) hq) (fun v s' hv => ?_) fun _ _ z => z
  obtain ⟨z, H', I', rz, n, rfl, hn, q⟩ := hv
  obtain ⟨t, rfl⟩ := rz
  exact ⟨⟨by omega, by omega⟩, ⟨.int n, H', I'.tok _, ⟨_, rfl⟩, q⟩⟩
/-- str(x), x an instance of C -/
def rStrC (C : Addr) (sp : Sp) (E : XK) : List V → Hp → VK → Prop := fun xs H Q => ∃ a dx fs, xs = [.ref a] ∧ H a = some (.ins C dx fs) ∧ sp [.ref a] H (fun v H' => ∃ z, v = .str z ∧ Q (.str z) H') E
theorem call_strC (hm : Meth X.K C "__str__" f) (F : FnOk X.prog X.w X.K X.mg X.base CX k f fd ps sp) (hr : Room (k + 2) X.A) (hb : Binds X.K fd ps []) (hx : Passes CX X E) : CallR X (.type "str") (rStrC C sp E) := by
  intro pins s σ H xs us Q I r h
  obtain ⟨a, dx, fs, rfl, ha, hq⟩ := h
  obtain ⟨u, rfl, rx⟩ := vals1 r
  cases rx
  obtain ⟨mA, J, _⟩ := ins_get I.hok ha
  obtain ⟨od, J, _⟩ := J.look
  obtain ⟨m, hF⟩ := I.fr
  refine PySem.W.kso_call hr.in1.in1.units0 I.kIn J hm.at_ hm.fn ?_
  refine wpAny_mono (run_at (vs := [.ref a]) F hr.in1.in1 rfl hb hx I (.cons rfl .nil) hq) (fun v s' hv => ?_) fun _ _ z => z
  obtain ⟨z, H', I', rz, y, rfl, q⟩ := hv
  obtain ⟨t, rfl⟩ := rz
  exact ⟨.str y, H', I', ⟨_, rfl⟩, q⟩
/-- x != y, x and y instances of C -/
theorem op_neC (hm : Meth X.K C "__eq__" f) (hn : PySem.W.findIn X.K (.ref C) "__ne__" = some (some (.builtin "object.__ne__"))) (ho : PySem.W.mroIn X.K C (.type "object") = some true) (F : FnOk X.prog X.w X.K X.mg X.base CX k f fd ps sp) (hr : Room (k + 1) X.A) (hb : Binds X.K fd ps []) (hx : Passes CX X E) :
    OpR X (compareOp .NotEq) (fun x y H Q => rEqC C sp E x y H fun v H' => ∃ t, v = .bl t ∧ Q (.bl (!t)) H') := by
  intro pins s σ H x y v u Q I rx ry hq
  obtain ⟨a, b, dx, dy, fs, gs, rfl, rfl, ha, hb', hq⟩ := hq
  cases rx
  cases ry
  obtain ⟨mA, J, _⟩ := ins_get I.hok ha
  obtain ⟨mB, J', _⟩ := ins_get I.hok hb'
  obtain ⟨od, J, _⟩ := J.look
  obtain ⟨od', J', _⟩ := J'.look
  show wpAny (model X.prog X.w) X.A (richCompare .NotEq (.ref a) (.ref b)) (EP X pins σ Q) X.xe s
  refine ne_K (by have := hr.un; omega) I.kIn J J' hn ho hm.at_ hm.fn ?_
  refine wpAny_mono (run_at (vs := [.ref a, .ref b]) F hr.in1 rfl hb hx I (.cons rfl (.cons rfl .nil)) hq) (fun v s' hv => ?_) fun _ _ z => z
  obtain ⟨z, H', I', rz, t, rfl, t', e, q⟩ := hv
  cases rz
  cases e
  exact ⟨t, rfl, .bl (!t), H', I', rfl, q⟩
end
end Cl
set_option linter.all false
/-! xs.extend(t), max(t), min(t), t a tuple -/
namespace Xt
open PySem PySem.Spec PyProof.Rows L2
section
open PySem.Calls PySem.MeetsSeq
open AutoSeq1 (wpAny_loadPart')
theorem ext_tup (l : Addr) (xs : Array Value) (n : Nat) (b : Addr) (ys : Array Value) (m : Nat) (od : Option Addr) (sl : Array (Option Value)) (h0 : ¬(!xs.isEmpty && Builtin.List.listTooLong (xs.size + ys.size)) = true) (h1 : xs.size ≤ sizeLine) (h2 : xs.size + ys.size ≤ sizeLine + 1) :
    Meets (Builtin.«list.extend» ⟨[.ref l, .ref b], []⟩) (fun _ R s => s.heap.get? l = some { cls := .type "list", dict := none, data := .seq xs n, slots := #[] } ∧ s.heap.get? b = some { cls := .type "tuple", dict := od, data := .seq ys m, slots := sl } ∧ R (.ok (.ret Value.none)) { s with heap := s.heap.update l (Obj.mapSeq fun x => x ++ ys), toks := s.toks }) :=
  .of_wp fun prog w A R s h => by
    obtain ⟨hp, g, d, tk, os⟩ := s
    obtain ⟨hl, hb, h⟩ := h
    have g2 := AutoSeq1.sub_tuple_tuple
    have g3 := AutoSeq1.sub_list_list
    have g4 := AutoSeq1.sub_tuple_list
    have g5 := AutoSeq1.sub_list_tuple
    have hz' : (xs ++ ys).size ≤ sizeLine + 1 := by rw [Array.size_append]; exact h2
    wp_walk using (wpAny_updateSeq hl rfl (hz := h1) (_hz' := hz')), wpAny_loadPart' hl, wpAny_loadPart' hb
    exact ⟨_, rfl, h⟩
end
def rExtT : V → List V → Hp → VK → Prop := fun x vs H Q => ∃ l b xs zs, x = .ref l ∧ vs = [.ref b] ∧ H l = some (.lst xs) ∧ H b = some (.tup zs) ∧ xs.length + zs.length ≤ sizeLine ∧ Q .non (upd H l (.lst (xs ++ zs)))
theorem mt_extT {X : Cx} : MtM X "list.extend" rExtT := by
  intro pins s σ H x vs v us Q J rx rv h
  obtain ⟨l, b, xs, zs, rfl, rfl, hl, hb, hz, q⟩ := h
  cases rx
  obtain ⟨u, rfl, ru⟩ := rv.one
  cases ru
  obtain ⟨z, its, n, r, hl2, e⟩ := J.lstM hl
  obtain ⟨z2, i2, r2, ⟨oc, od, dt, sl⟩, e2, c2, n2, d2⟩ := (show ObjOk X.prog X.w H s.heap b (.tup zs) from J.hok b _ hb)
  simp only at c2 d2
  subst c2 d2
  have sz : its.toArray.size + i2.toArray.size ≤ sizeLine := by
    have := r2.length
    rw [List.size_toArray, List.size_toArray]
    omega
  have lg : ¬ (!its.toArray.isEmpty && Builtin.List.listTooLong (its.toArray.size + i2.toArray.size)) = true := by
    rw [notLongL sz, Bool.and_false]
    exact Bool.false_ne_true
  refine call_meets F.slot_list_extend ⟨_, e, rfl⟩ F.entry_list_extend (F.args_list_extend_2 _ _) (ext_tup l its.toArray n b i2.toArray n2 od sl lg (by rw [List.size_toArray]; omega) (by omega)) ⟨e, e2, ?_⟩
  exact ⟨.non, _, J.lset (its' := its ++ i2) hl e (by simp) (r.append r2) (by rw [List.length_append]; omega), rfl, q⟩
section
variable {prog : Program} {w : World} {A : Around} {E : Value → Shared → Prop} {s : Shared} {ns : List Int} {t : Addr} {its : List Value}
theorem old_of {I : Addr} {h h' : Heap} {o0 : Obj} (e : I = h.objs.size) (k : ∀ b o, b ∉ [I] → (h.push o0).get? b = some o → h'.get? b = some o) : ∀ b o, h.get? b = some o → h'.get? b = some o := fun b o q =>
  k b o (fun z => by rw [List.mem_singleton.mp z, e] at q; exact absurd (Heap.lt_size q) (Nat.lt_irrefl _)) (Heap.get?_push_of_some _ q)
theorem max_tup (hh : A.handled = none) (hl : s.heap.IsTuple t its.toArray) (hi : IntsAre its ns) (hne : 0 < ns.length)
    (h : ∀ h' tk M t', (∀ b o, s.heap.get? b = some o → h'.get? b = some o) → M ∈ ns → (∀ a, a ∈ ns → a ≤ M) → Q (.int M t') { s with heap := h', toks := tk }) : wpAny (model prog w) A (call (.builtin "max") [.ref t]) Q E s := by
  obtain ⟨xs, e⟩ := hi.allInts.items
  have hn : numsOf (intItems xs).toList = ns := by rw [← e]; exact hi.numsOf
  rw [nums_intItems] at hn
  subst hn
  rw [e] at hl
  have lt : t < s.heap.objs.size := by
    obtain ⟨_, g, _⟩ := hl
    exact Heap.lt_size g
  have hsz : 0 < xs.size := by simpa using hne
  refine call_max_walk (wpAny_pyIter_tuple hl ?_)
  refine ⟨_, _, _, _, _, _, _, rfl, Walks.tuple (A := A.in1) hh s.heap.objs.size t (Nat.ne_of_lt lt) (intItems xs), ⟨⟨_, Heap.get?_push_size _ rfl, rfl, rfl⟩, ?_⟩, fun b hb => ?_, by simpa [intItems] using hsz, CmpOf.ints_gt (numAt xs) (fun _ _ => intItems_at), fun v h' tk hP hk => ?_⟩
  · obtain ⟨o, g, c, n, d⟩ := hl
    exact ⟨o, Heap.get?_push_of_some _ g, c, n, d⟩
  · show b < (s.heap.push _).objs.size
    rw [Heap.size_push]
    rcases List.mem_cons.mp hb with rfl | hb
    · exact Nat.lt_succ_self _
    · rw [List.mem_singleton.mp hb]
      exact Nat.lt_succ_of_lt lt
  · have hv : (intItems xs)[argBest (fun i j => decide (numAt xs i > numAt xs j)) (xs.size - 1)]? = some v := by simpa [intItems] using hP
    obtain ⟨t', rfl⟩ := intItems_at hv
    obtain ⟨h1, h2⟩ := argBest_gt (numAt xs) (xs.size - 1)
    refine h h' tk _ t' (old_of rfl hk) ?_ fun a ha => ?_
    · rw [numAt_eq]
      exact PySem.getD_mem (by rw [List.length_map, Array.length_toList]; omega)
    · obtain ⟨j, hj, rfl⟩ := mem_getD ha
      rw [List.length_map, Array.length_toList] at hj
      rw [← numAt_eq]
      exact h2 j (by omega)
theorem min_tup (hh : A.handled = none) (hl : s.heap.IsTuple t its.toArray) (hi : IntsAre its ns) (hne : 0 < ns.length)
    (h : ∀ h' tk M t', (∀ b o, s.heap.get? b = some o → h'.get? b = some o) → M ∈ ns → (∀ a, a ∈ ns → M ≤ a) → Q (.int M t') { s with heap := h', toks := tk }) : wpAny (model prog w) A (call (.builtin "min") [.ref t]) Q E s := by
  obtain ⟨xs, e⟩ := hi.allInts.items
  have hn : numsOf (intItems xs).toList = ns := by rw [← e]; exact hi.numsOf
  rw [nums_intItems] at hn
  subst hn
  rw [e] at hl
  have lt : t < s.heap.objs.size := by
    obtain ⟨_, g, _⟩ := hl
    exact Heap.lt_size g
  have hsz : 0 < xs.size := by simpa using hne
  refine call_min_walk (wpAny_pyIter_tuple hl ?_)
  refine ⟨_, _, _, _, _, _, _, rfl, Walks.tuple (A := A.in1) hh s.heap.objs.size t (Nat.ne_of_lt lt) (intItems xs), ⟨⟨_, Heap.get?_push_size _ rfl, rfl, rfl⟩, ?_⟩, fun b hb => ?_, by simpa [intItems] using hsz, CmpOf.ints_lt (numAt xs) (fun _ _ => intItems_at), fun v h' tk hP hk => ?_⟩
  · obtain ⟨o, g, c, n, d⟩ := hl
    exact ⟨o, Heap.get?_push_of_some _ g, c, n, d⟩
  · show b < (s.heap.push _).objs.size
    rw [Heap.size_push]
    rcases List.mem_cons.mp hb with rfl | hb
    · exact Nat.lt_succ_self _
    · rw [List.mem_singleton.mp hb]
      exact Nat.lt_succ_of_lt lt
  · have hv : (intItems xs)[argBest (fun i j => decide (numAt xs i < numAt xs j)) (xs.size - 1)]? = some v := by simpa [intItems] using hP
    obtain ⟨t', rfl⟩ := intItems_at hv
    obtain ⟨h1, h2⟩ := argBest_lt (numAt xs) (xs.size - 1)
    refine h h' tk _ t' (old_of rfl hk) ?_ fun a ha => ?_
    · rw [numAt_eq]
      exact PySem.getD_mem (by rw [List.length_map, Array.length_toList]; omega)
    · obtain ⟨j, hj, rfl⟩ := mem_getD ha
      rw [List.length_map, Array.length_toList] at hj
      rw [← numAt_eq]
      exact h2 j (by omega)
end
/-- max(t), min(t) of a tuple of numbers -/
def rMaxT (K : PySem.W.Frag) : List V → Hp → VK → Prop := fun vs H Q => ∃ (a : Addr) (ns : List Int), vs = [V.ref a] ∧ H a = some (.tup (ns.map V.int)) ∧ 0 < ns.length ∧ ∀ m, m ∈ ns → (∀ y, y ∈ ns → y ≤ m) → Q (.int m) H
def rMinT (K : PySem.W.Frag) : List V → Hp → VK → Prop := fun vs H Q => ∃ (a : Addr) (ns : List Int), vs = [V.ref a] ∧ H a = some (.tup (ns.map V.int)) ∧ 0 < ns.length ∧ ∀ m, m ∈ ns → (∀ y, y ∈ ns → m ≤ y) → Q (.int m) H
theorem tup_at {X : Cx} {pins : List (Addr × Obj)} {σ : L2.St} {H : Hp} {s : Shared} {a : Addr} {ns : List Int} (J : L2.Inv X pins σ H s) (ha : H a = some (.tup (ns.map V.int))) : ∃ its : List Value, IntsAre its ns ∧ s.heap.IsTuple a its.toArray := by
  obtain ⟨_, its, rv, o, h1, h2, n, h3⟩ := (show ObjOk X.prog X.w H s.heap a (.tup (ns.map V.int)) from J.hok a _ ha)
  exact ⟨its, rv.ints, o, h1, h2, n, h3⟩
theorem cr_maxT {X : Cx} (hc : X.calm = true) : CallR X (.builtin "max") (rMaxT X.K) := by
  intro pins s σ H vs us Q J r h
  obtain ⟨a, ns, rfl, ha, hne, q⟩ := h
  obtain ⟨its, hi, ht⟩ := tup_at J ha
  rw [Vals.ref1 r]
  exact max_tup (J.ok.hd hc) ht hi hne fun h' tk m t' hk h1 h2 => ⟨.int _, H, J.kept hk, ⟨_, rfl⟩, q m h1 h2⟩
theorem cr_minT {X : Cx} (hc : X.calm = true) : CallR X (.builtin "min") (rMinT X.K) := by
  intro pins s σ H vs us Q J r h
  obtain ⟨a, ns, rfl, ha, hne, q⟩ := h
  obtain ⟨its, hi, ht⟩ := tup_at J ha
  rw [Vals.ref1 r]
  exact min_tup (J.ok.hd hc) ht hi hne fun h' tk m t' hk h1 h2 => ⟨.int _, H, J.kept hk, ⟨_, rfl⟩, q m h1 h2⟩
end Xt
set_option linter.all false
/-! a dict compared with a text -/
namespace Ds
open PySem PySem.Spec PyProof.Rows PySem.Calls L2 PySem.SeqAt
open AutoSeq1 (wpAny_loadPart')
open Sem (wp)
section
variable {A : Around} {s : Shared}
theorem str_decl (b : Str) (u : Tok) (l : Addr) (c : Value) (dd : Option Addr) (es : Array DictEntry) (ep : Nat) (sl : Array (Option Value)) :
    Meets (Builtin.«str.__eq__» ⟨[.str b u, .ref l], []⟩) (fun _ R s => s.heap.get? l = some { cls := c, dict := dd, data := .dict es ep, slots := sl } ∧ R (.ok (.ret .notImplemented)) s) :=
  .of_wp fun prog w A R s h => by obtain ⟨hp, g, d, tk, os⟩ := s; obtain ⟨hl, h⟩ := h; wp_walk using wpAny_loadPart' hl, wpAny_load hl; exact ⟨_, rfl, h⟩
theorem dict_decl (l : Addr) (c : Value) (dd : Option Addr) (es : Array DictEntry) (ep : Nat) (sl : Array (Option Value)) (b : Str) (u : Tok) {prog : Program} {w : World} {E : Value → Shared → Prop} {Q : Value → Shared → Prop}
    (hl : s.heap.get? l = some { cls := .type "dict", dict := dd, data := .dict es ep, slots := sl }) (h : Q .notImplemented s) : wpAny (model prog w) A (call (.builtin "dict.__eq__") [.ref l, .str b u]) Q E s := by
  have ty : s.TypeIs (.ref l) "dict" := ⟨_, hl, rfl⟩
  refine wpAny_call_entry F.slot_dict_eq ty F.entry_dict_eq ?_ (F.args_dict_eq_2 _ _)
  show wpAny _ _ (Builtin.Dict.dictSlotArgs "__eq__" ⟨[.ref l, .str b u], []⟩ >>= _) _ _ s
  refine wpAny_bind ?_
  unfold Builtin.Dict.dictSlotArgs
  refine wpAny_bind (wpAny_notOrdered_dict ty ?_)
  show wpAny _ _ (pure (Value.ref l, Value.str b u)) _ _ s
  refine wpAny_pure ?_
  refine wpAny_bind (wpAny_isInstance (T := "str") (typeIs_str s b u) F.sub_str_dict ?_)
  simp only [Bool.not_false, if_true]
  refine wpAny_bind (wpAny_rule ?_)
  exact wpAny_bind (wpAny_pure (wpAny_pure ⟨_, rfl, h⟩))
theorem dict_str {l : Addr} {es : Array DictEntry} {ep : Nat} {dd : Option Addr} {sl : Array (Option Value)} (b : Str) (u : Tok) (hl : s.heap.get? l = some { cls := .type "dict", dict := dd, data := .dict es ep, slots := sl }) (hu : A.units < cLine) : RcAt A s (.ref l) (.str b u) false := fun prog w E Q h => by
  exact rc_eq_decline_or (k := false) ⟨_, hl, rfl⟩ (typeIs_str s b u) (by decide) F.sub_str_dict F.slot_dict_eq F.slot_str_eq_refl
    (fun _ hq => dict_decl l (.type "dict") dd es ep sl b u hl hq)
    (fun _ hq => call_meets F.slot_str_eq_refl (typeIs_str s b u) F.entry_str_eq (F.args_str_eq_2 _ _) (str_decl b u l (.type "dict") dd es ep sl) ⟨hl, hq⟩)
    (fun _ hq => wpAny_of_eq (rfl : isSame (.ref l) (.str b u) = pure false) hq) (.inr hu) h
theorem str_declN (b : Str) (u : Tok) (l : Addr) (c : Value) (dd : Option Addr) (es : Array DictEntry) (ep : Nat) (sl : Array (Option Value)) :
    Meets (Builtin.«str.__ne__» ⟨[.str b u, .ref l], []⟩) (fun _ R s => s.heap.get? l = some { cls := c, dict := dd, data := .dict es ep, slots := sl } ∧ R (.ok (.ret .notImplemented)) s) :=
  .of_wp fun prog w A R s h => by obtain ⟨hp, g, d, tk, os⟩ := s; obtain ⟨hl, h⟩ := h; wp_walk using wpAny_loadPart' hl, wpAny_load hl; exact ⟨_, rfl, h⟩
theorem dict_declN (l : Addr) (c : Value) (dd : Option Addr) (es : Array DictEntry) (ep : Nat) (sl : Array (Option Value)) (b : Str) (u : Tok) {prog : Program} {w : World} {E : Value → Shared → Prop} {Q : Value → Shared → Prop}
    (hl : s.heap.get? l = some { cls := .type "dict", dict := dd, data := .dict es ep, slots := sl }) (h : Q .notImplemented s) : wpAny (model prog w) A (call (.builtin "dict.__ne__") [.ref l, .str b u]) Q E s := by
  have ty : s.TypeIs (.ref l) "dict" := ⟨_, hl, rfl⟩
  refine wpAny_call_entry F.slot_dict_ne ty F.entry_dict_ne ?_ (F.args_dict_ne_2 _ _)
  show wpAny _ _ (Builtin.Dict.dictSlotArgs "__ne__" ⟨[.ref l, .str b u], []⟩ >>= _) _ _ s
  refine wpAny_bind ?_
  unfold Builtin.Dict.dictSlotArgs
  refine wpAny_bind (wpAny_notOrdered_dict ty ?_)
  show wpAny _ _ (pure (Value.ref l, Value.str b u)) _ _ s
  refine wpAny_pure ?_
  refine wpAny_bind (wpAny_isInstance (T := "str") (typeIs_str s b u) F.sub_str_dict ?_)
  simp only [Bool.not_false, if_true]
  refine wpAny_bind (wpAny_rule ?_)
  exact wpAny_bind (wpAny_pure (wpAny_pure ⟨_, rfl, h⟩))
theorem dict_strN {l : Addr} {es : Array DictEntry} {ep : Nat} {dd : Option Addr} {sl : Array (Option Value)} (b : Str) (u : Tok) (hl : s.heap.get? l = some { cls := .type "dict", dict := dd, data := .dict es ep, slots := sl }) (hu : A.units < cLine) : RcNeAt A s (.ref l) (.str b u) true := fun prog w E Q h => by
  exact rc_ne_decline_or (k := false) ⟨_, hl, rfl⟩ (typeIs_str s b u) (by decide) F.sub_str_dict F.slot_dict_ne F.slot_str_ne_refl
    (fun _ hq => dict_declN l (.type "dict") dd es ep sl b u hl hq)
    (fun _ hq => call_meets F.slot_str_ne_refl (typeIs_str s b u) F.entry_str_ne (F.args_str_ne_2 _ _) (str_declN b u l (.type "dict") dd es ep sl) ⟨hl, hq⟩)
    (fun _ hq => wpAny_of_eq (rfl : isSame (.ref l) (.str b u) = pure false) hq) (.inr hu) h
end
end Ds
set_option linter.all false
/-! tuple(zip(*xs)): any number of lists, or of tuples, of one length -/
namespace Tz
open PySem PySem.Spec PyProof.Rows L2 Zm Zn
section
variable {pr : Program} {w : World} {A : Around} {E : Value → Shared → Prop} {s : Shared}
theorem end0 {z TI TO : Addr} {Q : PySem.Fin → Shared → Prop} (hh : A.handled = none) (hz : IsZip s.heap z TI TO .none) (hTI : IsTup s.heap TI [])
    (hE : ∀ h' e, (∀ c o, s.heap.get? c = some o → h'.get? c = some o) → (∃ o, h'.get? e = some o ∧ o.cls = .type "StopIteration") → E (.ref e) { s with heap := h' }) :
    wpAny (model pr w) A (Builtin.«zip.__next__» ⟨[.ref z], []⟩) Q E s := by
  show wpAny _ _ (field (.ref z) 2 >>= _) _ _ _
  refine wpAny_bind (wpAny_field hz rfl (x := .bool false) rfl ?_)
  show wpAny _ _ (field (.ref z) 3 >>= _) _ _ _
  refine wpAny_bind (wpAny_field hz rfl (x := .ref TI) rfl ?_)
  refine wpAny_bind (wpAny_seqItems hTI rfl ?_)
  dsimp only
  rw [show (([] : List Value).toArray.isEmpty) = true from rfl]
  simp only [if_true]
  refine wpAny_bind (wpAny_rule ?_)
  refine wpAny_bind ?_
  show wpAny _ _ (newExc (.type "StopIteration") [] >>= _) _ _ _
  refine wpAny_bind ?_
  simp only [newExc, newTuple]
  refine wpAny_bind (wpAny_newObj_type ?_ (by size_fits))
  refine wpAny_bind (m := firstArgMember _ _) (wpAny_of_eq (a := Value.none) (by first | rfl | (simp only [firstArgMember]; rfl)) ?_)
  refine wpAny_newObj_type ?_ (by size_fits)
  simp only [raiseNew]
  refine wpAny_bind (wpAny_handled ?_)
  first | rw [show A.in1.handled = none from hh] | rw [hh]
  refine wpAny_bind (wpAny_pure (wpAny_throw ?_))
  exact hE _ _ (fun c o e => Heap.get?_push_of_some _ (Heap.get?_push_of_some _ e)) ⟨_, Heap.get?_push_size _ rfl, rfl⟩
theorem last0 {z TI TO : Addr} {Q : Option Value → Shared → Prop} (hh : A.handled = none) (hz : IsZip s.heap z TI TO .none) (hTI : IsTup s.heap TI [])
    (hQ : ∀ h', (∀ c o, s.heap.get? c = some o → h'.get? c = some o) → Q none { s with heap := h' }) : wpAny (model pr w) A (pyNext (.ref z)) Q E s := by
  have ty : s.TypeIs (.ref z) "zip" := ⟨_, hz, rfl⟩
  unfold pyNext
  refine wpAny_bind (wpAny_attempt (wpAny_callSpecial?_slot (name := Str.ofString "__next__") ty F.slot_zip_next (wpAny_call_entry F.slot_zip_next ty F.entry_zip_next ?_ (F.args_zip_next_1 _))))
  refine end0 hh hz hTI fun h' e hk he => ?_
  obtain ⟨o, ho, hc⟩ := he
  refine wpAny_bind (wpAny_isInstance (T := "StopIteration") (b := true) ⟨o, ho, hc⟩ isSubtype_stop ?_)
  exact wpAny_pure (hQ _ hk)
end
section
variable {X : Cx} {A : Around} {pn : List (Addr × Obj)} {σ : L2.St} {H0 : Hp} {s : Shared} {z TI TO : Addr} {is as : List Addr} {xss : List (List V)} {m : Nat} {k : Kd} {E : Value → Shared → Prop}
/-- collecting what a zip gives -/
theorem collect_zip {Qc : List Value → Shared → Prop} (hh : A.handled = none) (D : Apart z TI TO is as) (la : as.length = is.length) (lx : xss.length = as.length) (hm : ∀ xs ∈ xss, xs.length = m) (hn : m < sizeLine) (ha : as.length ≤ sizeLine) (hne : is ≠ [] ∨ (is = [] ∧ m = 0)) (qs : SqsV k X.K H0 as xss)
    (I : L2.Inv X pn σ H0 s) (fp : ∀ c ∈ z :: TI :: TO :: is, FpOk X pn H0 c) (Z0 : Zst k s.heap z TI TO is as 0) (hz : IsZip s.heap z TI TO .none) (lti : ∀ c ∈ is, c < s.heap.objs.size)
    (fin : ∀ (s' : Shared) (H' : Hp) (ts' : List Addr) (us : List Value), L2.Inv X pn σ H' s' → Zipped H0 H' s.heap.objs.size ts' xss m → Vals (ts'.map V.ref) us → Qc us s') :
    wpAny (model X.prog X.w) A (collect (.ref z)) Qc E s := by
  obtain ⟨hTIz, hTOz⟩ : s.heap.objs.size ≠ TI ∧ s.heap.objs.size ≠ TO := by
    obtain ⟨_, hTI, ⟨_, hTO, _⟩, _⟩ := id Z0
    exact ⟨Nat.ne_of_gt (Heap.lt_size hTI), Nat.ne_of_gt (Heap.lt_size hTO)⟩
  have nS : s.heap.objs.size ≠ z ∧ s.heap.objs.size ≠ TI ∧ s.heap.objs.size ≠ TO ∧ s.heap.objs.size ∉ is := ⟨Nat.ne_of_gt Z0.lz, hTIz, hTOz, fun m => Nat.lt_irrefl _ (lti _ m)⟩
  have h0S : H0 s.heap.objs.size = none := I.hok.fresh (Nat.le_refl _)
  unfold collect
  refine wpAny_bind (wpAny_runValue (codeAny_builtin F.entry_proto_collect ?_))
  rw [Around.under_plainId F.plain_proto_collect _]
  show wpAny _ A.in1 (newList [] >>= fun l0 => again (.builtin "list.__iadd__" ⟨[l0, .ref z], []⟩)) _ _ s
  refine wpAny_bind (wpAny_newObj_type ?_)
  refine wpAny_pure ⟨plainId_quiet F.plain_list_iadd _, codeAny_builtin F.entry_list_iadd ?_⟩
  rw [Around.under_plainId F.plain_list_iadd _]
  show wpAny _ A.in1 (Builtin.List.listExtendWith (.ref s.heap.objs.size) (.ref z) (.ref s.heap.objs.size)) _ _ _
  have k1 : ∀ b o, s.heap.get? b = some o → (s.heap.push { cls := .type "list", data := .seq ([] : List Value).toArray }).get? b = some o := fun b o e => Heap.get?_push_of_some _ e
  have hS1 : (s.heap.push { cls := .type "list", data := .seq ([] : List Value).toArray }).get? s.heap.objs.size = some { cls := .type "list", data := .seq ([] : List Value).toArray } := Heap.get?_push_size _ rfl
  generalize s.heap.push { cls := .type "list", data := .seq ([] : List Value).toArray } = g2 at k1 hS1 ⊢
  generalize eN : s.heap.objs.size = S at *
  have hz2 : IsZip g2 z TI TO .none := k1 _ _ hz
  have ty2 : Shared.TypeIs { s with heap := g2 } (.ref z) "zip" := ⟨_, hz2, rfl⟩
  unfold Builtin.List.listExtendWith
  refine wpAny_bind (wpAny_typeOf ty2 ?_)
  have c1 : Builtin.List.listSameRef (.ref S) (.ref z) = false := by simp [Builtin.List.listSameRef, nS.1]
  have c2 : (Value.type "zip" == Value.type "list") = false := by decide
  have c3 : (Value.type "zip" == Value.type "tuple") = false := by decide
  simp only [c1, c2, c3, Bool.or_false, Bool.false_eq_true, if_false]
  refine wpAny_bind (wpAny_pyIter_zip hz2 ?_)
  refine wpAny_bind (wpAny_holding ?_)
  unfold Builtin.List.listLengthHint
  refine wpAny_bind (wpAny_specialOf ty2 Lz.zip_no_len ?_)
  show wpAny _ _ (specialOf (Value.ref z) (Str.ofString "__length_hint__") >>= _) _ _ _
  refine wpAny_bind (wpAny_specialOf ty2 Lz.zip_no_hint (wpAny_pure ?_))
  show wpAny _ _ (rule "list.extend.makes-room" >>= fun _ => Builtin.List.listTouch (.ref S) >>= fun _ => again (.builtin "list.extend.loop" ⟨[.ref S, .ref z, .ref S], []⟩)) _ _ _
  refine wpAny_bind (wpAny_rule (wpAny_bind ?_))
  show wpAny _ _ (updateSeq S (·.push .none) >>= fun _ => updateSeq S (·.pop)) _ _ _
  refine wpAny_bind (wpAny_updateSeq hS1 rfl ?_)
  have eS3 := Heap.get?_update_self (Obj.mapSeq (·.push Value.none)) hS1 rfl
  refine wpAny_updateSeq (hz := by seq_fits) eS3 rfl ?_
  have eS4 := Heap.get?_update_self (Obj.mapSeq (·.pop)) eS3 rfl
  have o4 : ∀ c o, c ≠ S → g2.get? c = some o → ((g2.update S (Obj.mapSeq (·.push Value.none))).update S (Obj.mapSeq (·.pop))).get? c = some o := fun c o n e => (Heap.get?_update_other _ _ (Ne.symm n)).trans ((Heap.get?_update_other _ _ (Ne.symm n)).trans e)
  refine wpAny_pure ⟨plainId_quiet F.plain_extend_loop _, ?_⟩
  generalize (g2.update S (Obj.mapSeq (·.push Value.none))).update S (Obj.mapSeq (·.pop)) = g4 at eS4 o4 ⊢
  have kp4 : ∀ c o, s.heap.get? c = some o → g4.get? c = some o := fun c o e => by
    have n : c ≠ S := by
      rw [← eN]
      exact Nat.ne_of_lt (Heap.lt_size e)
    exact o4 c o n (k1 c o e)
  have I4 := I.laid (t' := s.toks) (o := .lst (([] : List Addr).map V.ref)) kp4 (Nat.le_of_eq eN) ⟨by simp, [], _, .nil, eS4⟩
  obtain ⟨_, hTI, ⟨_, hTO, lto⟩, _⟩ := id Z0
  rcases hne with hne | ⟨rfl, rfl⟩
  case inr =>
    have hz4 : IsZip g4 z TI TO .none := kp4 _ _ hz
    have hTI4 : IsTup g4 TI [] := kp4 _ _ hTI
    refine codeAny_builtin F.entry_extend_loop ?_
    rw [Around.under_plainId F.plain_extend_loop _]
    show wpAny _ _ (pyNext (.ref z) >>= _) _ _ _
    refine wpAny_bind (last0 (by simp [hh]) hz4 hTI4 fun h' kp => ?_)
    have I5 := I4.kept (t' := s.toks) kp
    obtain ⟨_, its, n', ri, eSl⟩ := I5.hok S (.lst (([] : List Addr).map V.ref)) upd_same
    refine wpAny_pure ?_
    show wpAny _ A (load S >>= _) _ _ _
    refine wpAny_bind (wpAny_load eSl ?_)
    refine wpAny_pure (fin _ _ [] _ I5 ⟨fun c o e => by rw [upd_ne (ne_of_none e h0S)]; exact e, h0S, upd_same, rfl, fun j t hj => by simp at hj⟩ (by simpa using ri))
  refine loop (by simpa using hh) D (.ref S) la lx hm hn ha hne qs h0S nS m 0 _ _ [] (by omega) (Nat.zero_le _) I4 (fun c hcm => ?_) ⟨.inl ⟨rfl, kp4 _ _ hz⟩, kp4 _ _ hTI, ⟨_, kp4 _ _ hTO, lto⟩, fun j it a l1 l2 e1 e2 => itr_keep (Z0.it j it a l1 l2 e1 e2) fun o e => kp4 _ _ e⟩ (fun c o e => by rw [upd_ne (ne_of_none e h0S)]; exact e) upd_same rfl (fun j t hj => by simp at hj) ?_
  · have f := fp c hcm
    refine ⟨?_, f.2⟩
    have n : c ≠ S := by
      have e' : c = z ∨ c = TI ∨ c = TO ∨ c ∈ is := by simpa using hcm
      rcases e' with q | q | q | q
      · rw [q]; exact nS.1.symm
      · rw [q]; exact nS.2.1.symm
      · rw [q]; exact nS.2.2.1.symm
      · exact fun e => nS.2.2.2 (by rw [← e]; exact q)
    rw [upd_ne n]
    exact f.1
  · intro s' H' ts' I' Z'
    obtain ⟨_, its, n', ri, eSl⟩ := I'.hok S _ Z'.lst
    show wpAny _ A (load S >>= _) _ _ s'
    refine wpAny_bind (wpAny_load eSl ?_)
    exact wpAny_pure (fin s' H' ts' _ I' Z' (by simpa using ri))
theorem call_tuple_zip {Q' : Value → Shared → Prop} (hh : A.handled = none) (D : Apart z TI TO is as) (la : as.length = is.length) (lx : xss.length = as.length) (hm : ∀ xs ∈ xss, xs.length = m) (hn : m < sizeLine) (ha : as.length ≤ sizeLine) (hne : is ≠ [] ∨ (is = [] ∧ m = 0)) (qs : SqsV k X.K H0 as xss)
    (I : L2.Inv X pn σ H0 s) (fp : ∀ c ∈ z :: TI :: TO :: is, FpOk X pn H0 c) (Z0 : Zst k s.heap z TI TO is as 0) (hz : IsZip s.heap z TI TO .none) (lti : ∀ c ∈ is, c < s.heap.objs.size)
    (fin : ∀ (s' : Shared) (H' : Hp) (ts' : List Addr), L2.Inv X pn σ (upd H' s'.heap.objs.size (.tup (ts'.map V.ref))) s' → Zipped H0 H' s.heap.objs.size ts' xss m → H' s'.heap.objs.size = none → True)
    (fin2 : ∀ (s' : Shared) (H' : Hp) (ts' : List Addr) (us : List Value), L2.Inv X pn σ H' s' → Zipped H0 H' s.heap.objs.size ts' xss m → Vals (ts'.map V.ref) us → Q' (.ref s'.heap.objs.size) { s' with heap := s'.heap.push { cls := .type "tuple", data := .seq us.toArray } }) :
    wpAny (model X.prog X.w) A (call (.type "tuple") [.ref z]) Q' E s := by
  have hTI : s.TypeIs (.ref z) "zip" := ⟨_, hz, rfl⟩
  have new : codeAny (model X.prog X.w) A.in1 (.call (.builtin "tuple.__new__") ⟨[.type "tuple", .ref z], []⟩) (wants (fun obj s₁ => s₁.TypeIs obj "tuple" ∧ Q' obj s₁) E) s := by
    refine codeAny_of_tree ?_
    show wpAny _ A.in1.in1 (do checkBuiltinCall "tuple.__new__" ⟨[.type "tuple", .ref z], []⟩; again (.builtin "tuple.__new__" ⟨[.type "tuple", .ref z], []⟩)) _ _ s
    refine wpAny_bind (wpAny_of_eq (F.newCall_tuple_1 _) (wpAny_pure ⟨plainId_quiet F.plain_tuple_new _, codeAny_builtin F.entry_tuple_new ?_⟩))
    rw [Around.under_plainId F.plain_tuple_new _]
    have hsub := sub_tuple_self
    have hinit := init_tuple_lookup
    have hmh := madeHere_tuple
    have hh3 : A.in1.in1.handled = none := by simp [hh]
    wp_walk using wpAny_typeOf hTI, collect_zip hh3 D la lx hm hn ha hne qs I fp Z0 hz lti
    intro s' H' ts' us I' Z' rv
    show wpAny _ _ (Builtin.Tuple.tupleExact us.toArray >>= fun v => ret v) _ _ _
    unfold Builtin.Tuple.tupleExact
    refine wpAny_bind (wpAny_newObj_type ?_ (by show us.toArray.size ≤ sizeLine; rw [List.size_toArray, ← rv.length, List.length_map, Z'.len]; exact Nat.le_of_lt hn))
    exact wpAny_pure ⟨⟨_, Heap.get?_push_size _ rfl, rfl⟩, fin2 s' H' ts' us I' Z' rv⟩
  refine callType_codes (Q₁ := fun obj s₁ => s₁.TypeIs obj "tuple" ∧ Q' obj s₁) F.called_tuple (F.typeCall_tuple_1 _) F.entry_object_init new fun obj s₁ h₁ => ?_
  exact ⟨h₁.1, F.args_object_init_2 obj _, object_init_meets F.called_tuple.init.lookup F.called_tuple.made (by decide) X.prog X.w A.in1 _ s₁ ⟨h₁.1, rfl, h₁.2⟩⟩
end
section
variable {X : Cx}
def tTZn (K : PySem.W.Frag) (te : TE) : TE := fun σ H Q => te σ H fun x H1 => ∃ (p : Addr) (as : List Addr) (k : Kd) (xss : List (List V)) (m : Nat), x = .ref p ∧ (SqT K H1 p (as.map V.ref) ∨ SqL K H1 p (as.map V.ref)) ∧ (as ≠ [] ∨ m = 0) ∧ SqsV k K H1 as xss ∧ xss.length = as.length ∧ (∀ xs ∈ xss, xs.length = m) ∧ m < sizeLine ∧ as.length ≤ sizeLine ∧
  ∀ (S : Addr) (ts : List Addr) (H' : Hp) (T : Addr), Zipped H1 H' S ts xss m → H' T = none → Q (.ref T) (upd H' T (.tup (ts.map V.ref)))
theorem pe_TZn {e : Expr} {te : TE} {p p2 pos pos2 sp : Pos} (hc : X.calm = true) (hg : Gl X "tuple") (hm : X.mg "tuple" = none) (hg2 : Gl X "zip") (hm2 : X.mg "zip" = none) (he : PE X e te)
    (hs : starEach [.Starred e sp] X.env = [(true, eval e X.env)] := by rfl)
    (hs2 : starEach [.Call (.Name "zip" p2) [.Starred e sp] [] pos2] X.env = (false, eval (.Call (.Name "zip" p2) [.Starred e sp] [] pos2) X.env) :: starEach [] X.env := by rfl) :
    PE X (.Call (.Name "tuple" p) [.Call (.Name "zip" p2) [.Starred e sp] [] pos2] [] pos) (tTZn X.K te) := by
  refine ⟨fun pn s σ H Q I h => ?_⟩
  refine Call_ (ld_blt I hg hm boot_tuple (PyProof.Rows.callWith_type1 (args_cons (Call_ (ld_blt I hg2 hm2 boot_zip (callWith_SType (thn (he.run pn s σ H _ I h) fun v s0 ⟨x, H1, I0, rx, q1⟩ => ?_) hs))) hs2) hs2 rfl))
  obtain ⟨pp, as, k, xss, m, ex, hp, hne, qs, lx, hm', hn, ha, q⟩ := q1
  subst ex
  obtain rfl : v = Value.ref pp := rx
  refine StX.star_any I0 hp fun us s1 I1 rv => ?_
  obtain rfl := vals_refs rv
  obtain ⟨uss, l1, l2, l3, l4⟩ := vals_all I1 lx qs
  refine call_zip_n k l3 (by omega) ha fun h' hz hTI hTO hit kp hsz => args_nil ?_
  have I2 : L2.Inv X pn σ H1 { s1 with heap := h' } := I1.kept (t' := s1.toks) kp
  have D : Apart (s1.heap.objs.size + as.length + 2) (s1.heap.objs.size + as.length) (s1.heap.objs.size + as.length + 1) (isF s1.heap.objs.size as.length) as := by
    refine ⟨nd_isF, fun m => ?_, fun m => ?_, fun m => ?_, Nat.ne_of_lt (Nat.lt_add_of_pos_right (by decide)), Nat.ne_of_lt (Nat.lt_succ_self _), Nat.ne_of_lt (Nat.lt_succ_self _), fun a ha m => ?_, fun a ha => Nat.ne_of_lt ?_, fun a ha => Nat.ne_of_lt ?_⟩
    · have := (mem_isF m).2
      omega
    · have := (mem_isF m).2
      omega
    · have := (mem_isF m).2
      omega
    · exact Nat.lt_irrefl _ (Nat.lt_of_lt_of_le (l4 a ha) (mem_isF m).1)
    · exact Nat.lt_of_lt_of_le (l4 a ha) (by omega)
    · exact Nat.lt_of_lt_of_le (l4 a ha) (by omega)
  have hh : X.A.in1.in1.handled = none := I1.ok.hd hc
  have hni : isF s1.heap.objs.size as.length ≠ [] ∨ (isF s1.heap.objs.size as.length = [] ∧ m = 0) := by
    rcases List.eq_nil_or_concat as with e | ⟨a, b, e⟩
    · rcases hne with w | w
      · exact absurd e w
      · refine .inr ⟨?_, w⟩
        rw [e]
        rfl
    · refine .inl fun z => ?_
      have := congrArg List.length z
      rw [isF_len, e] at this
      simp at this
  have lis : as.length = (isF s1.heap.objs.size as.length).length := isF_len.symm
  have fp : ∀ c ∈ (s1.heap.objs.size + as.length + 2) :: (s1.heap.objs.size + as.length) :: (s1.heap.objs.size + as.length + 1) :: isF s1.heap.objs.size as.length, FpOk X pn H1 c := fun c hcm => by
    have le : s1.heap.objs.size ≤ c := by
      have e' : c = s1.heap.objs.size + as.length + 2 ∨ c = s1.heap.objs.size + as.length ∨ c = s1.heap.objs.size + as.length + 1 ∨ c ∈ isF s1.heap.objs.size as.length := by simpa using hcm
      rcases e' with q | q | q | q
      · rw [q]
        exact Nat.le_trans (Nat.le_add_right _ _) (Nat.le_add_right _ _)
      · rw [q]
        exact Nat.le_add_right _ _
      · rw [q]
        exact Nat.le_trans (Nat.le_add_right _ _) (Nat.le_add_right _ _)
      · exact (mem_isF q).1
    exact I1.fpOk le (I1.hok.fresh le)
  have lto : (List.replicate as.length Value.none).length = (isF s1.heap.objs.size as.length).length := by rw [List.length_replicate, isF_len]
  have lti : ∀ c ∈ isF s1.heap.objs.size as.length, c < h'.objs.size := fun c hc => by
    refine Nat.lt_of_lt_of_le (mem_isF hc).2 ?_
    rw [hsz]
    exact Nat.le_add_right _ _
  have hit2 : Its k h' (isF s1.heap.objs.size as.length) as 0 (isF s1.heap.objs.size as.length).length 0 := by
    rw [isF_len]
    exact hit
  clear hit
  generalize s1.heap.objs.size + as.length + 2 = z at *
  generalize s1.heap.objs.size + as.length + 1 = TO at *
  generalize s1.heap.objs.size + as.length = TI at *
  generalize isF s1.heap.objs.size as.length = is at *
  have Z0 : Zst k h' z TI TO is as 0 := ⟨.inl ⟨rfl, hz⟩, hTI, ⟨_, hTO, lto⟩, hit2⟩
  refine call_tuple_zip (A := X.A) (I.ok.hd hc) D lis lx hm' hn ha hni qs I2 fp Z0 hz lti (fun _ _ _ _ _ _ => trivial) fun s' H' ts' us I' Z' rv => ?_
  have hT0 : H' s'.heap.objs.size = none := I'.hok.fresh (Nat.le_refl _)
  have rl := rv.length
  rw [List.length_map] at rl
  refine ⟨.ref s'.heap.objs.size, _, I'.laid (t' := s'.toks) (o := .tup (ts'.map V.ref)) (fun b o e => Heap.get?_push_of_some _ e) (Nat.le_refl _) ⟨by rw [List.length_map, Z'.len]; exact Nat.le_of_lt hn, us, rv, ⟨_, Heap.get?_push_size _ rfl, rfl, _, rfl⟩⟩, rfl, q _ _ _ _ Z' hT0⟩
end
end Tz
namespace Kp
open PySem L2
def top (i : Nat) : Stmt := PySem.Challenge.pw_fairposts_k22_gadgets_or_not.main.body.getD i (.Pass ⟨0, 0, 0, 0⟩)
abbrev s_is_whole : Stmt := top 2
def N_is_whole : List Str := ["thing"]
theorem sc_is_whole : FnScope ["thing"] ["thing"] (defScope s_is_whole) := ⟨rfl, rfl, rfl, by decide +kernel, rfl, by decide +kernel, by decide +kernel⟩
abbrev s_is_round : Stmt := top 3
def N_is_round : List Str := ["p", "thing"]
theorem sc_is_round : FnScope ["p", "thing"] ["p", "thing"] (defScope s_is_round) := ⟨rfl, rfl, rfl, by decide +kernel, rfl, by decide +kernel, by decide +kernel⟩
abbrev s_are_numbers : Stmt := top 5
def N_are_numbers : List Str := ["p", "many", "thing", "number"]
theorem sc_are_numbers : FnScope ["p", "many", "thing", "number"] ["p", "many", "thing"] (defScope s_are_numbers) := ⟨rfl, rfl, rfl, by decide +kernel, rfl, by decide +kernel, by decide +kernel⟩
abbrev s_is_square : Stmt := top 7
def N_is_square : List Str := ["p", "many", "thing", "row"]
theorem sc_is_square : FnScope ["p", "many", "thing", "row"] ["p", "many", "thing"] (defScope s_is_square) := ⟨rfl, rfl, rfl, by decide +kernel, rfl, by decide +kernel, by decide +kernel⟩
abbrev s_is_table : Stmt := top 8
def N_is_table : List Str := ["p", "many", "thing"]
theorem sc_is_table : FnScope ["p", "many", "thing"] ["p", "many", "thing"] (defScope s_is_table) := ⟨rfl, rfl, rfl, by decide +kernel, rfl, by decide +kernel, by decide +kernel⟩
abbrev s_is_hold : Stmt := top 10
def N_is_hold : List Str := ["posts", "thing"]
theorem sc_is_hold : FnScope ["posts", "thing"] ["posts", "thing"] (defScope s_is_hold) := ⟨rfl, rfl, rfl, by decide +kernel, rfl, by decide +kernel, by decide +kernel⟩
abbrev s_is_table_gadget : Stmt := top 12
def N_is_table_gadget : List Str := ["p", "thing", "word", "hold", "table"]
theorem sc_is_table_gadget : FnScope ["p", "thing", "word", "hold", "table"] ["p", "thing"] (defScope s_is_table_gadget) := ⟨rfl, rfl, rfl, by decide +kernel, rfl, by decide +kernel, by decide +kernel⟩
abbrev s_is_gadget : Stmt := top 13
def N_is_gadget : List Str := ["p", "thing", "word", "number"]
theorem sc_is_gadget : FnScope ["p", "thing", "word", "number"] ["p", "thing"] (defScope s_is_gadget) := ⟨rfl, rfl, rfl, by decide +kernel, rfl, by decide +kernel, by decide +kernel⟩
abbrev s__law_deck : Stmt := top 15
def N__law_deck : List Str := ["_law_script", "_law_cells", "_law_cell"]
theorem sc__law_deck : FnScope ["_law_script", "_law_cells", "_law_cell"] ["_law_script"] (defScope s__law_deck) := ⟨rfl, rfl, rfl, by decide +kernel, rfl, by decide +kernel, by decide +kernel⟩
abbrev s__law_next : Stmt := top 16
def N__law_next : List Str := ["_law_deck_here", "_law_many", "_law_cell", "_law_mixed", "_law_rest"]
theorem sc__law_next : FnScope ["_law_deck_here", "_law_many", "_law_cell", "_law_mixed", "_law_rest"] ["_law_deck_here", "_law_many"] (defScope s__law_next) := ⟨rfl, rfl, rfl, by decide +kernel, rfl, by decide +kernel, by decide +kernel⟩
abbrev s__law_prime : Stmt := top 17
def N__law_prime : List Str := ["_law_deck_here"]
theorem sc__law_prime : FnScope ["_law_deck_here"] ["_law_deck_here"] (defScope s__law_prime) := ⟨rfl, rfl, rfl, by decide +kernel, rfl, by decide +kernel, by decide +kernel⟩
abbrev s__law_hold : Stmt := top 18
def N__law_hold : List Str := ["_law_deck_here", "_law_posts", "_law_k"]
theorem sc__law_hold : FnScope ["_law_deck_here", "_law_posts", "_law_k"] ["_law_deck_here", "_law_posts"] (defScope s__law_hold) := ⟨rfl, rfl, rfl, by decide +kernel, rfl, by decide +kernel, by decide +kernel⟩
abbrev s__law_table : Stmt := top 19
def N__law_table : List Str := ["_law_deck_here", "_law_p", "_law_posts", "_law_found", "_law_k", "_law_j", "_law_number", "_law_row"]
theorem sc__law_table : FnScope ["_law_deck_here", "_law_p", "_law_posts", "_law_found", "_law_k", "_law_j", "_law_number", "_law_row"] ["_law_deck_here", "_law_p", "_law_posts"] (defScope s__law_table) := ⟨rfl, rfl, rfl, by decide +kernel, rfl, by decide +kernel, by decide +kernel⟩
abbrev s__law_is_from : Stmt := top 20
def N__law_is_from : List Str := ["_law_thing", "_law_low", "_law_high"]
theorem sc__law_is_from : FnScope ["_law_thing", "_law_low", "_law_high"] ["_law_thing", "_law_low", "_law_high"] (defScope s__law_is_from) := ⟨rfl, rfl, rfl, by decide +kernel, rfl, by decide +kernel, by decide +kernel⟩
abbrev s__law_are_from : Stmt := top 21
def N__law_are_from : List Str := ["_law_thing", "_law_many", "_law_high", "_law_one"]
theorem sc__law_are_from : FnScope ["_law_thing", "_law_many", "_law_high", "_law_one"] ["_law_thing", "_law_many", "_law_high"] (defScope s__law_are_from) := ⟨rfl, rfl, rfl, by decide +kernel, rfl, by decide +kernel, by decide +kernel⟩
abbrev s__law_is_table : Stmt := top 22
def N__law_is_table : List Str := ["_law_p", "_law_sides", "_law_thing", "_law_many", "_law_k", "_law_row"]
theorem sc__law_is_table : FnScope ["_law_p", "_law_sides", "_law_thing", "_law_many", "_law_k", "_law_row"] ["_law_p", "_law_sides", "_law_thing"] (defScope s__law_is_table) := ⟨rfl, rfl, rfl, by decide +kernel, rfl, by decide +kernel, by decide +kernel⟩
abbrev s__law_due : Stmt := top 23
def N__law_due : List Str := ["_law_p", "_law_thing"]
theorem sc__law_due : FnScope ["_law_p", "_law_thing"] ["_law_p", "_law_thing"] (defScope s__law_due) := ⟨rfl, rfl, rfl, by decide +kernel, rfl, by decide +kernel, by decide +kernel⟩
abbrev s__law_spoilt : Stmt := top 24
def N__law_spoilt : List Str := ["_law_deck_here", "_law_thing", "_law_some", "_law_at"]
theorem sc__law_spoilt : FnScope ["_law_deck_here", "_law_thing", "_law_some", "_law_at"] ["_law_deck_here", "_law_thing"] (defScope s__law_spoilt) := ⟨rfl, rfl, rfl, by decide +kernel, rfl, by decide +kernel, by decide +kernel⟩
abbrev s__law_gadgets : Stmt := top 25
def N__law_gadgets : List Str := ["_law_deck_here", "_law_p", "_law_posts", "_law_sides", "_law_numbers", "_law_found", "_law_word"]
theorem sc__law_gadgets : FnScope ["_law_deck_here", "_law_p", "_law_posts", "_law_sides", "_law_numbers", "_law_found", "_law_word"] ["_law_deck_here", "_law_p"] (defScope s__law_gadgets) := ⟨rfl, rfl, rfl, by decide +kernel, rfl, by decide +kernel, by decide +kernel⟩
abbrev s__law_right : Stmt := top 26
def N__law_right : List Str := ["_law_p", "_law_thing", "_law_shown", "_law_due_here", "_law_turn", "_law_found"]
theorem sc__law_right : FnScope ["_law_p", "_law_thing", "_law_shown", "_law_due_here", "_law_turn", "_law_found"] ["_law_p", "_law_thing"] (defScope s__law_right) := ⟨rfl, rfl, rfl, by decide +kernel, rfl, by decide +kernel, by decide +kernel⟩
abbrev s_law : Stmt := top 27
def N_law : List Str := ["_law_script", "_law_deck_here", "_law_p", "_law_some", "_law_thing", "_law_sides", "_law_rows", "_law_turn"]
theorem sc_law : FnScope ["_law_script", "_law_deck_here", "_law_p", "_law_some", "_law_thing", "_law_sides", "_law_rows", "_law_turn"] ["_law_script"] (defScope s_law) := ⟨rfl, rfl, rfl, by decide +kernel, rfl, by decide +kernel, by decide +kernel⟩
structure Df (K : PySem.W.Frag) (mg : Str → Option Value) (x : Str) (st : Stmt) (ps : List Str) (f : Addr) (fd : FuncData) : Prop where
  F : Fun K x x st f fd
  b : Binds K fd ps []
  g : mg x = some (.ref f)
structure Ad where
  f_is_whole : Addr
  d_is_whole : FuncData
  f_is_round : Addr
  d_is_round : FuncData
  f_are_numbers : Addr
  d_are_numbers : FuncData
  f_is_square : Addr
  d_is_square : FuncData
  f_is_table : Addr
  d_is_table : FuncData
  f_is_hold : Addr
  d_is_hold : FuncData
  f_is_table_gadget : Addr
  d_is_table_gadget : FuncData
  f_is_gadget : Addr
  d_is_gadget : FuncData
  f__law_deck : Addr
  d__law_deck : FuncData
  f__law_next : Addr
  d__law_next : FuncData
  f__law_prime : Addr
  d__law_prime : FuncData
  f__law_hold : Addr
  d__law_hold : FuncData
  f__law_table : Addr
  d__law_table : FuncData
  f__law_is_from : Addr
  d__law_is_from : FuncData
  f__law_are_from : Addr
  d__law_are_from : FuncData
  f__law_is_table : Addr
  d__law_is_table : FuncData
  f__law_due : Addr
  d__law_due : FuncData
  f__law_spoilt : Addr
  d__law_spoilt : FuncData
  f__law_gadgets : Addr
  d__law_gadgets : FuncData
  f__law_right : Addr
  d__law_right : FuncData
  f_law : Addr
  d_law : FuncData
  c_POSTS : Addr
structure Tx (K : PySem.W.Frag) (mg : Str → Option Value) (A : Ad) : Prop where
  d_is_whole : Df K mg "is_whole" s_is_whole ["thing"] A.f_is_whole A.d_is_whole
  d_is_round : Df K mg "is_round" s_is_round ["p", "thing"] A.f_is_round A.d_is_round
  d_are_numbers : Df K mg "are_numbers" s_are_numbers ["p", "many", "thing"] A.f_are_numbers A.d_are_numbers
  d_is_square : Df K mg "is_square" s_is_square ["p", "many", "thing"] A.f_is_square A.d_is_square
  d_is_table : Df K mg "is_table" s_is_table ["p", "many", "thing"] A.f_is_table A.d_is_table
  d_is_hold : Df K mg "is_hold" s_is_hold ["posts", "thing"] A.f_is_hold A.d_is_hold
  d_is_table_gadget : Df K mg "is_table_gadget" s_is_table_gadget ["p", "thing"] A.f_is_table_gadget A.d_is_table_gadget
  d_is_gadget : Df K mg "is_gadget" s_is_gadget ["p", "thing"] A.f_is_gadget A.d_is_gadget
  d__law_deck : Df K mg "_law_deck" s__law_deck ["_law_script"] A.f__law_deck A.d__law_deck
  d__law_next : Df K mg "_law_next" s__law_next ["_law_deck_here", "_law_many"] A.f__law_next A.d__law_next
  d__law_prime : Df K mg "_law_prime" s__law_prime ["_law_deck_here"] A.f__law_prime A.d__law_prime
  d__law_hold : Df K mg "_law_hold" s__law_hold ["_law_deck_here", "_law_posts"] A.f__law_hold A.d__law_hold
  d__law_table : Df K mg "_law_table" s__law_table ["_law_deck_here", "_law_p", "_law_posts"] A.f__law_table A.d__law_table
  d__law_is_from : Df K mg "_law_is_from" s__law_is_from ["_law_thing", "_law_low", "_law_high"] A.f__law_is_from A.d__law_is_from
  d__law_are_from : Df K mg "_law_are_from" s__law_are_from ["_law_thing", "_law_many", "_law_high"] A.f__law_are_from A.d__law_are_from
  d__law_is_table : Df K mg "_law_is_table" s__law_is_table ["_law_p", "_law_sides", "_law_thing"] A.f__law_is_table A.d__law_is_table
  d__law_due : Df K mg "_law_due" s__law_due ["_law_p", "_law_thing"] A.f__law_due A.d__law_due
  d__law_spoilt : Df K mg "_law_spoilt" s__law_spoilt ["_law_deck_here", "_law_thing"] A.f__law_spoilt A.d__law_spoilt
  d__law_gadgets : Df K mg "_law_gadgets" s__law_gadgets ["_law_deck_here", "_law_p"] A.f__law_gadgets A.d__law_gadgets
  d__law_right : Df K mg "_law_right" s__law_right ["_law_p", "_law_thing"] A.f__law_right A.d__law_right
  d_law : Df K mg "law" s_law ["_law_script"] A.f_law A.d_law
  b_abs : mg "abs" = none
  b_all : mg "all" = none
  b_bool : mg "bool" = none
  b_int : mg "int" = none
  b_isinstance : mg "isinstance" = none
  b_len : mg "len" = none
  b_list : mg "list" = none
  b_range : mg "range" = none
  b_repr : mg "repr" = none
  b_str : mg "str" = none
  b_tuple : mg "tuple" = none
  b_zip : mg "zip" = none
  v_POSTS : ∃ t, mg "POSTS" = some (.int 10 t)
/-! ### heaps -/
theorem same_upd {H : Hp} {p : Addr} {o : HO} (h : H p = none) : Same H (upd H p o) := fun b x e => by
  rw [upd_ne (ne_of_none e h)]
  exact e
/-- all but the deck's two lists that change stays -/
def Fr (d g : Addr) (H H' : Hp) : Prop := ∀ a o, a ≠ d → a ≠ g → H a = some o → H' a = some o
theorem Fr.refl (d g : Addr) (H : Hp) : Fr d g H H := fun _ _ _ _ h => h
theorem Fr.trans {d g : Addr} {H H1 H2 : Hp} (x : Fr d g H H1) (y : Fr d g H1 H2) : Fr d g H H2 := fun a o hd hg h => y a o hd hg (x a o hd hg h)
theorem Fr.of_same {d g : Addr} {H H1 : Hp} (x : Same H H1) : Fr d g H H1 := fun a o _ _ h => x a o h
theorem Fr.new {d g : Addr} {H : Hp} {p : Addr} {o : HO} (h : H p = none) : Fr d g H (upd H p o) := .of_same (same_upd h)
theorem Fr.atd {d g : Addr} {H : Hp} {o : HO} : Fr d g H (upd H d o) := fun a x hd _ h => by
  rw [upd_ne hd]
  exact h
theorem Fr.atg {d g : Addr} {H : Hp} {o : HO} : Fr d g H (upd H g o) := fun a x _ hg h => by
  rw [upd_ne hg]
  exact h
/-- the deck: a list of great cells, of cells, and a count that is at most k -/
structure Dk (d g c : Addr) (k : Int) (H : Hp) : Prop where
  ex : ∃ (gs cs : List Int) (n : Int), H d = some (.lst [.ref g, .ref c, .int n]) ∧ H g = some (.lst (gs.map V.int)) ∧ H c = some (.lst (cs.map V.int)) ∧ 0 < cs.length ∧ cs.length ≤ 100 ∧ 0 ≤ n ∧ n ≤ k
  dg : d ≠ g
  dc : d ≠ c
  gc : g ≠ c
theorem Dk.mono {d g c : Addr} {k j : Int} {H : Hp} (D : Dk d g c k H) (h : k ≤ j) : Dk d g c j H := by
  obtain ⟨gs, cs, n, h1, h2, h3, h4, h5, h6, h7⟩ := D.ex
  exact ⟨⟨gs, cs, n, h1, h2, h3, h4, h5, h6, by omega⟩, D.dg, D.dc, D.gc⟩
theorem Dk.same {d g c : Addr} {k : Int} {H H' : Hp} (D : Dk d g c k H) (s : Same H H') : Dk d g c k H' := by
  obtain ⟨gs, cs, n, h1, h2, h3, h4, h5, h6, h7⟩ := D.ex
  exact ⟨⟨gs, cs, n, s _ _ h1, s _ _ h2, s _ _ h3, h4, h5, h6, h7⟩, D.dg, D.dc, D.gc⟩
theorem Dk.hd {d g c : Addr} {k : Int} {H : Hp} (D : Dk d g c k H) : ∃ o, H d = some o := by
  obtain ⟨gs, cs, n, h1, _⟩ := D.ex
  exact ⟨_, h1⟩
theorem Dk.nd {d g c p : Addr} {k : Int} {H : Hp} (D : Dk d g c k H) (h : H p = none) : p ≠ d ∧ p ≠ g ∧ p ≠ c := by
  obtain ⟨gs, cs, n, h1, h2, h3, _⟩ := D.ex
  exact ⟨(ne_of_none h1 h).symm, (ne_of_none h2 h).symm, (ne_of_none h3 h).symm⟩
theorem neqv_nil : ∀ gs : List Int, PyData.eqv (.list (gs.map PyData.int)) (.list []) = gs.isEmpty
  | [] => rfl
  | _ :: _ => rfl
theorem dp_ints {K : PySem.W.Frag} {H : Hp} : ∀ gs : List Int, DpAll K H (gs.map V.int) (gs.map PyData.int)
  | [] => .nil
  | i :: r => .cons (.int i) (dp_ints r)
theorem lay_ints : ∀ gs : List Int, PyData.canLayAll0 (gs.map PyData.int) = true
  | [] => by simp [PyData.canLayAll0]
  | z :: zs => by simp [PyData.canLayAll0, PyData.canLay0, lay_ints zs]
theorem dep_ints : ∀ gs : List Int, PyData.depthAll (gs.map PyData.int) = 0
  | [] => by simp [PyData.depthAll]
  | z :: zs => by simp [PyData.depthAll, PyData.depth, dep_ints zs]
theorem sh_ints (gs : List Int) : SeqAt.shaped (.list (gs.map PyData.int)) = true := by
  have h1 := dep_ints gs
  have h2 : PyData.depth (.list (gs.map PyData.int)) ≤ 64 := by
    simp only [PyData.depth]
    omega
  show (PyData.canLay0 (.list (gs.map PyData.int)) && decide (PyData.depth (.list (gs.map PyData.int)) ≤ 64)) = true
  rw [Bool.and_eq_true]
  exact ⟨by simp only [PyData.canLay0]; exact lay_ints gs, decide_eq_true h2⟩
theorem atI_zero {α : Type} {x : α} {xs : List α} : atI (x :: xs) 0 = some x := atI_nat (j := 0) rfl
theorem ints_at {cs : List Int} {i : Int} (h0 : 0 ≤ i) (h1 : i < cs.length) : ∃ v : Int, atI (cs.map V.int) i = some (V.int v) := by
  obtain ⟨j, rfl⟩ := Int.eq_ofNat_of_zero_le h0
  have hj : j < cs.length := by omega
  refine ⟨cs[j], ?_⟩
  apply atI_nat
  rw [List.getElem?_map, List.getElem?_eq_getElem hj]
  rfl
theorem int_of_map {cs : List Int} {i : Nat} {y : V} (h : (cs.map V.int)[i]? = some y) : ∃ u, y = V.int u := by
  rw [List.getElem?_map] at h
  cases e : cs[i]? with
  | none =>
    rw [e] at h
    cases h
  | some u =>
    rw [e] at h
    exact ⟨u, (Option.some.inj h).symm⟩
theorem ixN_zero {n : Nat} (h : 0 < n) : ixN n 0 = some 0 := by
  unfold ixN
  rw [if_pos (Int.le_refl 0), if_pos (by omega)]
  rfl
theorem ixN_seq0 {n : Nat} (h : 0 < n) : seqIndex? 0 n = some 0 := (ixN_seq (ixN_zero h)).1
theorem mod_in {a m : Int} (h0 : 0 < m) (h1 : m ≤ 2 ^ 64) : -(2 ^ 64) < a % m ∧ a % m < 2 ^ 64 := by
  have x := Int.emod_nonneg a (b := m) (by omega)
  have y := Int.emod_lt_of_pos a h0
  exact ⟨by omega, by omega⟩
theorem bl_t {c : Prop} [Decidable c] (h : c) : V.bl (decide c) = V.bl true := by rw [decide_eq_true h]
theorem bl_f {c : Prop} [Decidable c] (h : ¬ c) : V.bl (decide c) = V.bl false := by rw [decide_eq_false h]
theorem nb_f {c : Prop} [Decidable c] (h : c) : V.bl (!decide c) = V.bl false := by rw [decide_eq_true h]; rfl
theorem nb_t {c : Prop} [Decidable c] (h : ¬ c) : V.bl (!decide c) = V.bl true := by rw [decide_eq_false h]; rfl
/-! ### isinstance -/
def isB (T U : String) : Bool := (kitB T U).getD false
/-- the built-in type of a value -/
def TyB1 (K : PySem.W.Frag) (H : Hp) (x : V) (T : String) : Prop := TyX K H x (.type T) ∧ (T = "int" ∨ T = "bool" ∨ T = "NoneType" ∨ T = "str" ∨ T = "list" ∨ T = "tuple" ∨ T = "dict")
theorem isi_of {K : PySem.W.Frag} {T : String} (U : String) (hT : T = "int" ∨ T = "bool" ∨ T = "NoneType" ∨ T = "str" ∨ T = "list" ∨ T = "tuple" ∨ T = "dict") (hU : U = "int" ∨ U = "bool" ∨ U = "tuple" ∨ U = "list" ∨ U = "str") : PySem.W.kitOne K (.type T) (.type U) = some (isB T U) := by
  rcases hT with rfl | rfl | rfl | rfl | rfl | rfl | rfl <;> rcases hU with rfl | rfl | rfl | rfl | rfl <;> exact kit_ty (by decide +kernel)
theorem isB_ii : isB "int" "int" = true := by decide +kernel
theorem isB_ib : isB "int" "bool" = false := by decide +kernel
theorem isB_bi : isB "bool" "int" = true := by decide +kernel
theorem isB_bb : isB "bool" "bool" = true := by decide +kernel
theorem isB_tt : isB "tuple" "tuple" = true := by decide +kernel
/-! ### a call where it is known that no repr is under way (guards), and the law's own end over it -/
open PySem.Spec PyProof.Rows in
theorem at_call {P : Program} {w : World} {K : PySem.W.Frag} {mg : Str → Option Value} {base : Heap} {A : Around} {outer : List Env}
    {x qual : Str} {st : Stmt} {f : Addr} {fd : FuncData} {N ps : List Str} {k : Nat} (F : Fun K x qual st f fd)
    (S : FnScope N ps (defScope st)) {s : Shared} {H : Hp} {args : Args} {us : List Value} {vs : List V} {Q : VK} {E : XK}
    (hl : vs.length = ps.length) (room : Room (k + 1) A) (e0 : Env0 P w K mg base A outer s H)
    (hb : BindsTo s fd args (ps.zip us)) (rv : Vals vs us)
    (body : ∀ cdv : Value, Room k (A.deeper (envOfC qual (defScope st) s.heap.objs.size f cdv)) →
      ∃ t, PSs (cxOf CX0 P w K mg base N qual (defScope st) f cdv A outer s H E).nox (defBody st) t ∧
        t { nx := fun _ H' => Q .non H', rt := Q } (start N vs) H) :
    codeAny (model P w) A (.call (.ref f) args) (CR CX0 outer P w H s Q E) s := by
  obtain ⟨oc, od, kV, doc, pm, an, cdv, ct, osl, rfl, look, code⟩ := F.ex
  have inn : ∀ {b o}, base.get? b = some o → s.heap.get? b = some o := fun z => (e0.bs _ _ z).1
  have kin : K.In s.heap := e0.mod.kin.keeps fun _ _ z => inn z
  have nol : s.heap.NoLimit := e0.mod.nolimit.keeps fun _ _ z => inn z
  refine codeAny_call_function room.depth (kin _ _ look) rfl S.co S.gen rfl (PySem.W.codeRec_of kin code) (hb _ _ _ _ ?_)
  refine wpAny_newFunctionEnv_cells S.kind (fun y hy => ?_) fun env he s1 inc => ?_
  · obtain ⟨n, v⟩ := y
    cases S.par n (List.of_mem_zip hy).1 with
    | inl z => exact Or.inl z
    | inr z => exact Or.inr ⟨z, PySem.W.cellsFrom_some _ _ _ (Or.inl z)⟩
  · subst he
    refine ⟨nol.keeps inc.toInCall.keep, codeAny_func ?_⟩
    obtain ⟨t, ht, hq⟩ := body cdv (room.deeper _)
    have I0 := inv_start (CX := CX0) (E := E) S room.hd e0 hl rv inc
    refine wpAny_mono (ht.nox.run [] s1 (start N vs) H _ I0 hq) (fun fl s' hs => ?_) (fun _ _ z => z)
    match fl, hs with
    | .ret _, ⟨v, _, H', J, r1, q1⟩ => exact ⟨v, H', J.os, J.bare, J.base, J.hok, r1, q1⟩
    | .next, ⟨_, H', J, q1⟩ => exact ⟨V.non, H', J.os, J.bare, J.base, J.hok, rfl, q1⟩
    | .brk, ⟨_, _, _, z⟩ => exact z.elim
    | .cont, ⟨_, _, _, z⟩ => exact z.elim
open PySem.Spec PyProof.Rows in
theorem core_end {P : Program} {w : World} {K : PySem.W.Frag} {mg mb : Str → Option Value} {fa a : Addr} {t : Shared} {vs : List Value} {H : Hp}
    (kin : K.In t.heap) (hm : t.heap.Ns mainGlobals mg) (hb : t.heap.Ns builtinsNs mb) (boot : ∀ x : Str, x ≠ "__name__" → mb x = bootBuiltins x)
    (nol : t.heap.NoLimit) (hg : t.gens = #[]) (ha : t.heap.get? a = some { cls := .type "list", data := .seq vs.toArray })
    (only : Only H) (hok : HOk P w H t.heap) (atA : ∀ b o, H b = some o → b = a) (notK : ∀ o, H a = some o → K.lookup a = none)
    (R : ∀ base : Heap, (∀ b o, t.heap.get? b = some o → H b = none → base.get? b = some o) → Env0 P w K mg base callerA [] t H →
      codeAny (model P w) callerA (.call (.ref fa) ⟨[.ref a], []⟩) (CR CX0 [] P w H t (fun v _ => v = .bl true) E0) t) :
    codeAny (model P w) callerA (.call (.ref fa) ⟨[.ref a], []⟩)
      (fun r u => r = .ok (.ret (.bool true)) ∧ PySem.OldK t.heap u.heap ∧ u.os = t.os ∧ AllBare u.gens) t := by
  have hid : ∀ {b o}, t.heap.get? b = some o → H b = none → (hidT t.heap H).get? b = some o := fun z n => hidT_get z n
  have names : ∀ {b : Addr} {m : Str → Option Value}, t.heap.Ns b m → (hidT t.heap H).Ns b m := by
    rintro b m ⟨o, es, ep, z, d, r⟩
    refine ⟨o, es, ep, hid z ?_, d, r⟩
    cases q : H b with
    | none => rfl
    | some u =>
      cases atA b u q
      rw [ha] at z
      cases z
      cases d
  have kinB : K.In (hidT t.heap H) := by
    intro b o z
    refine hid (kin b o z) ?_
    cases q : H b with
    | none => rfl
    | some u =>
      cases atA b u q
      rw [notK u q] at z
      cases z
  obtain ⟨mc, n1, n2⟩ := nol
  have md : Mod K mg (hidT t.heap H) := ⟨kinB, names hm, ⟨mb, names hb, boot⟩, ⟨mc, names n1, n2⟩⟩
  have e0 : Env0 P w K mg (hidT t.heap H) callerA [] t H := by
    refine ⟨rfl, md, fun b o z => of_hidT z, Nat.le_of_eq (hidT_size _ _), trivial, fun b z => ?_, hok, .of_eq hg⟩
    exact (List.not_mem_nil (show b ∈ ([] : List Addr) from z)).elim
  refine codeAny_mono (R _ (fun b o z n => hid z n) e0) fun r u h => ?_
  match r, h with
  | .ok (.ret y), ⟨v, H', hos, bare, un, hok', rel, e⟩ =>
    have e2 : v = V.bl true := e
    subst e2
    cases (show y = Value.bool true from rel)
    refine ⟨rfl, OldK.of_keep fun b o z => ?_, hos, bare⟩
    rcases only b with n | ⟨ob, xs, n⟩
    · exact un.keep b o z n (fun y => (List.not_mem_nil (show b ∈ ([] : List Addr) from y)).elim) (by simp)
    · obtain ⟨g1, _⟩ := hok b _ n
      obtain ⟨g2, _⟩ := hok' b _ (un.frzs b ob _ n)
      rw [g1] at z
      cases z
      exact g2
  | .ok .next, h => exact False.elim h
  | .ok .brk, h => exact False.elim h
  | .ok .cont, h => exact False.elim h
  | .error _, h => exact False.elim h
open PySem.Spec PyProof.Rows in
/-- the law's call, over every script of at most 63 numbers, gives True -/
def LawOk (P : Program) (w : World) (K : PySem.W.Frag) (mg : Str → Option Value) (fa : Addr) : Prop :=
  ∀ (base : Heap) (t : Shared) (H : Hp) (a : Addr) (ns : List Int), ns.length ≤ 63 → (∃ o, base.get? sysModules = some o) → Env0 P w K mg base callerA [] t H → SqL K H a (ns.map V.int) →
    codeAny (model P w) callerA (.call (.ref fa) ⟨[.ref a], []⟩) (CR CX0 [] P w H t (fun v _ => v = .bl true) E0) t
open PySem.Spec PyProof.Rows in
theorem walk_g {l : PySem.W.OpenLaw} {q : Program} {loose : List Str} {XP : (Str → Option Value) → Heap → Prop} {YP : World → Heap → Prop} {d : DefRec} {K : Params → PySem.W.Frag}
    (hn : l.most = some 63) (hdf : d.params.defaults = []) (hi : importsNone q = true) (hY : ∀ (w : World) (h : Heap), YP w h → (K w.params).In h)
    (F : ∀ (w : World) (mg : Str → Option Value) (fa : Addr) (h : Heap), (K w.params).In h → h.Ns mainGlobals mg → mg d.name = some (.ref fa) → LawOk l.prog w (K w.params) mg fa) :
    PySem.W.WalkO q loose XP YP l.row.toRowW d [] (fun f vs => PySem.call f vs) := by
  refine Att.attach_call hn hdf fun w s₀ t mg mb fa o pm cd doc a vs ns G Y ho hd hcd hmg hobj hints hlen hg => ?_
  have kin := hY w _ Y
  have L := F w mg fa _ kin G.T.g hmg
  have rv := vals_ints hints
  have small : ns.length ≤ sizeLine := Nat.le_trans hlen (by decide)
  obtain ⟨mm, ⟨os, es, ep, hos, hod, _⟩, _⟩ := (G.T.seer hi).mods
  cases hk : (K w.params).lookup a with
  | some u =>
    have z := kin a u hk
    rw [hobj] at z
    cases z
    refine core_end (H := fun _ => none) kin G.T.g G.T.b G.T.builtins G.T.nolimit hg hobj (fun _ => .inl rfl) (fun b u z => nomatch z) (fun b o z => nomatch z) (fun o z => nomatch z) fun base up e0 => ?_
    exact L base t _ a ns hlen ⟨_, up _ _ hos rfl⟩ e0 (.inr ⟨_, vs.toArray, _, hk, rfl, rfl, rfl, by rw [List.size_toArray, hints.length]; exact small, by simpa using rv⟩)
  | none =>
    refine core_end (H := fun b => if b = a then some (.frz { cls := .type "list", data := .seq vs.toArray } (.lst (ns.map V.int))) else none) kin G.T.g G.T.b G.T.builtins G.T.nolimit hg hobj (fun b => ?_) (fun b u z => ?_) (fun b o z => ?_) (fun _ _ => hk) fun base up e0 => ?_
    · by_cases e : b = a
      · exact .inr ⟨_, _, if_pos e⟩
      · exact .inl (if_neg e)
    · by_cases e : b = a
      · cases (if_pos e).symm.trans z
        subst e
        exact ⟨hobj, by rw [List.length_map]; exact small, vs, _, rv, hobj⟩
      · cases (if_neg e).symm.trans z
    · by_cases e : b = a
      · exact e
      · cases (if_neg e).symm.trans z
    · have ne : sysModules ≠ a := fun z => by
        rw [z, hobj] at hos
        cases hos
        cases hod
      have h1 := L base t _ a ns hlen ⟨_, up _ _ hos (if_neg ne)⟩ e0
      exact h1 (.inl (.inr ⟨_, if_pos rfl⟩))
open PySem.Spec PyProof.Rows in
theorem guards_caller : callerA.guards = some [] := rfl
section
variable {X : Cx}
open PySem.Spec PyProof.Rows in
/-- repr(x), x of lists, tuples, ints, texts, truths, None -/
theorem call_reprD (hg : X.A.guards = some []) (hu : X.A.units + 80 < cLine) : CallR X (.builtin "repr") (fun xs H Q => ∃ (a : Addr) (d : PyData), xs = [.ref a] ∧ Dp X.K H (.ref a) d ∧ d.showable = true ∧ d.hasDict = false ∧ d.depth ≤ 64 ∧ d.shown.length ≤ sizeLine ∧ Q (.str d.shown) H) := by
  intro pins s σ H xs us Q I r h
  obtain ⟨a, d, rfl, hd, hs, hn, hz, hl, q⟩ := h
  obtain ⟨u, rfl, ru⟩ := vals1 r
  obtain ⟨as, rd⟩ := Dp.reads I d _ u hd ru
  obtain rfl : u = Value.ref a := ru
  refine repr_of_reads' rd hs (PyData.noDict_hsm hn) hg (by omega) (fun _ _ z => z) (fun h' u tk hk => ?_) hl
  exact ⟨.str d.shown, H, I.kept hk, ⟨_, rfl⟩, q⟩
end
theorem ru80 {k : Nat} {A : Around} (hr : Room k A) : A.units + 80 < cLine := by
  have := hr.un
  omega
open PySem.Spec PyProof.Rows in
theorem law_at {P : Program} {w : World} {K : PySem.W.Frag} {mg : Str → Option Value} {st : Stmt} {f : Addr} {fd : FuncData} {N : List Str} {p : Str} {k : Nat}
    (D : Df K mg "law" st [p] f fd) (S : FnScope N [p] (defScope st)) (room : Room (k + 1) callerA)
    (body : ∀ (base : Heap) (t : Shared) (H : Hp) (a : Addr) (ns : List Int) (cdv : Value), ns.length ≤ 63 → (∃ o, base.get? sysModules = some o) → SqL K H a (ns.map V.int) →
      Room k (callerA.deeper (envOfC "law" (defScope st) t.heap.objs.size f cdv)) →
      ∃ tm, PSs (cxOf CX0 P w K mg base N "law" (defScope st) f cdv callerA [] t H E0).nox (defBody st) tm ∧
        tm { nx := fun _ _ => V.non = .bl true, rt := fun v _ => v = .bl true } (start N [.ref a]) H) : LawOk P w K mg f := by
  intro base t H a ns hl hm e0 hS
  have kin : K.In t.heap := e0.mod.kin.keeps fun b o z => (e0.bs b o z).1
  exact at_call (vs := [.ref a]) D.F S rfl room e0 (D.b t [.ref a] kin rfl) (.cons rfl .nil) fun cdv hr => body base t H a ns cdv hl hm hS hr
/-! ### defs that ask for repr: promises where it is known that no repr is under way -/
open PySem.Spec PyProof.Rows in
structure FnG (P : Program) (w : World) (K : PySem.W.Frag) (mg : Str → Option Value) (base : Heap) (k : Nat) (f : Addr) (fd : FuncData) (ps : List Str) (sp : Sp) : Prop where
  len : ∀ {vs H Q E}, sp vs H Q E → vs.length = ps.length
  go : ∀ {A' : Around} {outer : List Env} {s : Shared} {H : Hp} {args : Args} {us : List Value} {vs : List V} {Q : VK} {E : XK}, A'.guards = some [] → Room k A' → Env0 P w K mg base A' outer s H → BindsTo s fd args (ps.zip us) → Vals vs us → sp vs H Q E →
    codeAny (model P w) A' (.call (.ref f) args) (CR CX0 outer P w H s Q E) s
open PySem.Spec PyProof.Rows in
theorem okG {P : Program} {w : World} {K : PySem.W.Frag} {mg : Str → Option Value} {base : Heap} {x qual : Str} {st : Stmt} {f : Addr} {fd : FuncData} {N ps : List Str} {k : Nat} {sp : Sp} (F : Fun K x qual st f fd) (S : FnScope N ps (defScope st)) (len : ∀ {vs H Q E}, sp vs H Q E → vs.length = ps.length)
    (body : ∀ (cdv : Value) (A' : Around) (outer : List Env) (s : Shared) (H : Hp) (vs : List V) (Q : VK) (E : XK), A'.guards = some [] → Room k (A'.deeper (envOfC qual (defScope st) s.heap.objs.size f cdv)) → sp vs H Q E →
      ∃ t, PSs (cxOf CX0 P w K mg base N qual (defScope st) f cdv A' outer s H E).nox (defBody st) t ∧ t { nx := fun _ H' => Q .non H', rt := Q } (start N vs) H) : FnG P w K mg base (k + 1) f fd ps sp :=
  ⟨len, fun hg hr e0 hb rv h => at_call F S (len h) hr e0 hb rv fun cdv hr' => body cdv _ _ _ _ _ _ _ hg hr' h⟩
section
open PySem.Spec PyProof.Rows
variable {X : Cx} {k : Nat} {f : Addr} {fd : FuncData} {ps : List Str} {sp : Sp} {x : Str} {p pos : Pos} {e : Expr} {es : List Expr} {t : TA}
theorem run_g {pins : List (Addr × Obj)} {σ : L2.St} {H : Hp} {s : Shared} {Q : VK} {us : List Value} {vs : List V} (F : FnG X.prog X.w X.K X.mg X.base k f fd ps sp) (hgd : X.A.guards = some []) (hr : Room k X.A) (hb : Binds X.K fd ps []) (I : L2.Inv X pins σ H s) (r : Vals vs us) (h : sp vs H Q E0) : wpAny (model X.prog X.w) X.A (call (.ref f) us) (EP X pins σ Q) X.xe s := by
  have hl : (us ++ []).length = ps.length := by
    rw [List.append_nil, ← r.length]
    exact F.len h
  have bnd := hb s us I.kIn hl
  rw [List.append_nil] at bnd
  refine wpAny_call (codeAny_mono (F.go hgd hr I.env0 bnd r h) fun r s' hq => ?_)
  match r, hq with
  | .ok (.ret _), hq => exact I.after hq
theorem pe_callG (F : FnG X.prog X.w X.K X.mg X.base k f fd ps sp) (hgd : X.A.guards = some []) (hr : Room k X.A) (hg : Gl X x) (hm : X.mg x = some (.ref f)) (hk : PySem.W.keepIn X.K (.ref f) = true) (hb : Binds X.K fd ps []) (ha : PA X (e :: es) t)
    (hdb : (x == ("__debug__" : Str)) = false := by decide) (he : starEach (e :: es) X.env = (false, eval e X.env) :: starEach es X.env := by rfl) (hpl : (backTo pos (starEach es X.env)).any (·.1) = false := by rfl) : PE X (.Call (.Name x p) (e :: es) [] pos) (tCall sp [] E0 t) :=
  ⟨fun pins s σ H Q I h => wpAny_Call_Name_kw (ld_glob I hg hm (PySem.W.callWith_K (h₀ := X.base) I.ok.mod.kin hk (thn (ha.run pos pins s σ H _ I h) fun us s1 ⟨vs, H1, I1, r, q⟩ => ⟨I1.kIn, run_g F hgd hr hb I1 r (by have z : sp (vs ++ []) H1 Q E0 := q; rw [List.append_nil] at z; exact z)⟩) he hpl) hdb)⟩
end
/-! ### things of any depth: None, truths, ints, texts, lists, tuples, {} -/
/-- dicts of whole numbers -/
inductive DqKv : List (Key × V) → List (PyData × PyData) → Prop
  | nil : DqKv [] []
  | cons (i j : Int) {kvs : List (Key × V)} {ds : List (PyData × PyData)} : DqKv kvs ds → DqKv ((.inl i, .int j) :: kvs) ((.int i, .int j) :: ds)
mutual
inductive Dq (H : Hp) : V → PyData → Prop
  | non : Dq H .non .none
  | bl (b : Bool) : Dq H (.bl b) (.bool b)
  | int (i : Int) : Dq H (.int i) (.int i)
  | str (x : Str) : Dq H (.str x) (.str x)
  | lst {a : Addr} {xs : List V} {ds : List PyData} : H a = some (.lst xs) → DqAll H xs ds → Dq H (.ref a) (.list ds)
  | tup {a : Addr} {xs : List V} {ds : List PyData} : H a = some (.tup xs) → DqAll H xs ds → Dq H (.ref a) (.tuple ds)
  | dic {a : Addr} {kvs : List (Key × V)} {ds : List (PyData × PyData)} : H a = some (.dK kvs) → DqKv kvs ds → Dq H (.ref a) (.dict ds)
inductive DqAll (H : Hp) : List V → List PyData → Prop
  | nil : DqAll H [] []
  | cons {v : V} {vs : List V} {d : PyData} {ds : List PyData} : Dq H v d → DqAll H vs ds → DqAll H (v :: vs) (d :: ds)
end
theorem DqAll.length {H : Hp} : ∀ {vs : List V} {ds : List PyData}, DqAll H vs ds → vs.length = ds.length
  | [], _, h => by
    cases h
    rfl
  | _ :: vs, _, h => by
    cases h with
    | cons _ h2 => exact congrArg (· + 1) (DqAll.length h2)
theorem DqAll.append {H : Hp} : ∀ {vs ws : List V} {ds es : List PyData}, DqAll H vs ds → DqAll H ws es → DqAll H (vs ++ ws) (ds ++ es)
  | [], _, _, _, h, k => by
    cases h
    exact k
  | _ :: _, _, _, _, h, k => by
    cases h with
    | cons h1 h2 => exact .cons h1 (DqAll.append h2 k)
theorem DqAll.get {H : Hp} : ∀ {vs : List V} {ds : List PyData} {i : Nat} {v : V}, DqAll H vs ds → vs[i]? = some v → ∃ d, ds[i]? = some d ∧ Dq H v d
  | [], _, _, _, _, e => by simp at e
  | x :: vs, _, 0, v, h, e => by
    cases h with
    | cons h1 h2 =>
      cases (Option.some.inj e)
      exact ⟨_, rfl, h1⟩
  | x :: vs, _, i + 1, v, h, e => by
    cases h with
    | cons h1 h2 => exact DqAll.get (i := i) h2 (show vs[i]? = some v from e)
theorem DqAll.take {H : Hp} : ∀ {vs : List V} {ds : List PyData} (n : Nat), DqAll H vs ds → DqAll H (vs.take n) (ds.take n)
  | _, _, 0, _ => by
    rw [List.take_zero, List.take_zero]
    exact .nil
  | [], _, n + 1, h => by
    cases h
    exact .nil
  | _ :: _, _, n + 1, h => by
    cases h with
    | cons h1 h2 => exact .cons h1 (DqAll.take n h2)
theorem DqAll.drop {H : Hp} : ∀ {vs : List V} {ds : List PyData} (n : Nat), DqAll H vs ds → DqAll H (vs.drop n) (ds.drop n)
  | _, _, 0, h => h
  | [], _, n + 1, h => by
    cases h
    exact .nil
  | _ :: _, _, n + 1, h => by
    cases h with
    | cons h1 h2 => exact DqAll.drop n h2
theorem DqAll.rev {H : Hp} : ∀ {vs : List V} {ds : List PyData}, DqAll H vs ds → DqAll H vs.reverse ds.reverse
  | [], _, h => by
    cases h
    exact .nil
  | v :: vs, _, h => by
    cases h with
    | cons h1 h2 =>
      rw [List.reverse_cons, List.reverse_cons]
      exact (DqAll.rev h2).append (.cons h1 .nil)
mutual
theorem Dq.mono {H H' : Hp} (s : ∀ a o, H a = some o → (∀ xs, o = .lst xs → H' a = some o) ∧ (∀ xs, o = .tup xs → H' a = some o) ∧ (∀ kvs, o = .dK kvs → H' a = some o)) : ∀ (d : PyData) (v : V), Dq H v d → Dq H' v d
  | .none, _, h => by
    cases h
    exact .non
  | .bool b, _, h => by
    cases h
    exact .bl b
  | .int i, _, h => by
    cases h
    exact .int i
  | .str x, _, h => by
    cases h
    exact .str x
  | .list ds, _, h => by
    cases h with
    | lst e k => exact .lst ((s _ _ e).1 _ rfl) (Dq.monoAll s ds _ k)
  | .tuple ds, _, h => by
    cases h with
    | tup e k => exact .tup ((s _ _ e).2.1 _ rfl) (Dq.monoAll s ds _ k)
  | .dict _, _, h => by
    cases h with
    | dic e k => exact .dic ((s _ _ e).2.2 _ rfl) k
theorem Dq.monoAll {H H' : Hp} (s : ∀ a o, H a = some o → (∀ xs, o = .lst xs → H' a = some o) ∧ (∀ xs, o = .tup xs → H' a = some o) ∧ (∀ kvs, o = .dK kvs → H' a = some o)) : ∀ (ds : List PyData) (vs : List V), DqAll H vs ds → DqAll H' vs ds
  | [], _, h => by
    cases h
    exact .nil
  | d :: ds, _, h => by
    cases h with
    | cons h1 h2 => exact .cons (Dq.mono s d _ h1) (Dq.monoAll s ds _ h2)
end
theorem Dq.same {H H' : Hp} {v : V} {d : PyData} (h : Dq H v d) (s : Same H H') : Dq H' v d := Dq.mono (fun _ _ e => ⟨fun _ _ => s _ _ e, fun _ _ => s _ _ e, fun _ _ => s _ _ e⟩) d v h
theorem DqAll.same {H H' : Hp} {v : List V} {d : List PyData} (h : DqAll H v d) (s : Same H H') : DqAll H' v d := Dq.monoAll (fun _ _ e => ⟨fun _ _ => s _ _ e, fun _ _ => s _ _ e, fun _ _ => s _ _ e⟩) d v h
section
variable {X : Cx} {pins : List (Addr × Obj)} {σ : L2.St} {H : Hp} {s : Shared}
open PySem.Spec PyProof.Rows
theorem kv_reads {P : Program} {w : World} (h : Heap) : ∀ {kvs : List (Key × V)} {ds : List (PyData × PyData)} {vs : List (Key × Value)} {es : List DictEntry}, DqKv kvs ds → KV kvs vs → PySem.Pairs (mixKind P w) es vs → ReadsAll h (es.map (·.key)) (ds.map (·.1)) [] ∧ ReadsAll h (es.map (·.val)) (ds.map (·.2)) []
  | _, _, _, _, .nil, k, p => by
    cases k
    cases p
    exact ⟨.nil, .nil⟩
  | _, _, _, _, .cons i j r, k, p => by
    cases k with
    | cons a k2 =>
      cases p with
      | cons ek ev p2 =>
        obtain ⟨r1, r2⟩ := kv_reads h r k2 p2
        obtain ⟨a1, a2⟩ := a
        rw [← a1] at ek
        obtain ⟨i2, t, e1, e2⟩ | ⟨x, t, e1, e2⟩ := keyIs_shape (show keyIs (Sum.inl i) _ = true from ek)
        · cases e1
          obtain ⟨t2, e3⟩ := a2
          rw [e3] at ev
          refine ⟨?_, ?_⟩
          · rw [List.map_cons, List.map_cons, e2]
            exact ReadsAll.cons (as := []) (bs := []) (.int i t) r1
          · rw [List.map_cons, List.map_cons, ev]
            exact ReadsAll.cons (as := []) (bs := []) (.int j t2) r2
        · cases e1
theorem tracked_ne (I : L2.Inv X pins σ H s) (hm : ∃ o, X.base.get? sysModules = some o) {a : Addr} {o : HO} (e : H a = some o) : sysModules ≠ a := fun z => by
  obtain ⟨ob, hb⟩ := hm
  have n := (I.bs _ _ hb).2
  rw [z, e] at n
  cases n
mutual
theorem Dq.reads (I : L2.Inv X pins σ H s) (hm : ∃ o, X.base.get? sysModules = some o) : ∀ (d : PyData) (v : V) (u : Value), Dq H v d → L2.RelV v u → ∃ as, Reads s.heap u d as ∧ sysModules ∉ as
  | .none, _, _, h, r => by
    cases h
    cases r
    exact ⟨_, Reads.none, by simp⟩
  | .bool b, _, _, h, r => by
    cases h
    cases r
    exact ⟨_, Reads.bool b, by simp⟩
  | .int i, _, _, h, r => by
    cases h
    obtain ⟨t, rfl⟩ := r
    exact ⟨_, Reads.int i t, by simp⟩
  | .str x, _, _, h, r => by
    cases h
    obtain ⟨t, rfl⟩ := r
    exact ⟨_, Reads.str x t, by simp⟩
  | .list ds, _, _, h, r => by
    cases h with
    | lst e k =>
      cases r
      have ne := tracked_ne I hm e
      obtain ⟨its, rv, ⟨o, n, ho, hc, _, hd⟩, _⟩ := I.list (SqL.of e)
      obtain ⟨as, hr, hn⟩ := Dq.readsAll I hm ds _ its k rv
      exact ⟨_, Reads.list ho hc hd hr, fun z => by
        rcases List.mem_cons.mp z with z | z
        · exact ne z
        · exact hn z⟩
  | .tuple ds, _, _, h, r => by
    cases h with
    | tup e k =>
      cases r
      obtain ⟨its, rv, ⟨o, ho, hc, n, hd⟩, _⟩ := I.tuple (SqT.of e)
      obtain ⟨as, hr, hn⟩ := Dq.readsAll I hm ds _ its k rv
      exact ⟨_, Reads.tuple ho hc hd hr, hn⟩
  | .dict _, _, _, h, r => by
    cases h with
    | dic e k =>
      cases r
      have ne := tracked_ne I hm e
      obtain ⟨_, _, vs, kv, o, es, ep, h1, h2, h3, h4, h6, _⟩ := I.hok _ _ e
      obtain ⟨r1, r2⟩ := kv_reads s.heap k kv h6
      refine ⟨_, Reads.dict (as := []) (bs := []) h1 h2.1 h3 r1 r2, fun z => ?_⟩
      rcases List.mem_cons.mp z with z | z
      · exact ne z
      · simp at z
theorem Dq.readsAll (I : L2.Inv X pins σ H s) (hm : ∃ o, X.base.get? sysModules = some o) : ∀ (ds : List PyData) (vs : List V) (us : List Value), DqAll H vs ds → L2.Vals vs us → ∃ as, ReadsAll s.heap us ds as ∧ sysModules ∉ as
  | [], _, _, h, r => by
    cases h
    cases r
    exact ⟨_, ReadsAll.nil, by simp⟩
  | d :: ds, _, _, h, r => by
    cases h with
    | cons h1 h2 =>
      cases r with
      | cons r1 r2 =>
        obtain ⟨as, q1, n1⟩ := Dq.reads I hm d _ _ h1 r1
        obtain ⟨bs, q2, n2⟩ := Dq.readsAll I hm ds _ _ h2 r2
        exact ⟨_, ReadsAll.cons q1 q2, fun z => (List.mem_append.mp z).elim n1 n2⟩
end
end
section
variable {X : Cx}
open PySem.Spec PyProof.Rows in
/-- repr(x), x any such thing -/
theorem call_reprQ (hm : ∃ o, X.base.get? sysModules = some o) (hg : X.A.guards = some []) (hu : X.A.units + 80 < cLine) : CallR X (.builtin "repr") (fun xs H Q => ∃ (x : V) (d : PyData), xs = [x] ∧ Dq H x d ∧ d.showable = true ∧ d.depth ≤ 64 ∧ d.shown.length ≤ sizeLine ∧ Q (.str d.shown) H) := by
  intro pins s σ H xs us Q I r h
  obtain ⟨x, d, rfl, hd, hs, hz, hl, q⟩ := h
  obtain ⟨u, rfl, ru⟩ := vals1 r
  cases hd with
  | non =>
    obtain rfl : u = Value.none := ru
    exact PySem.P.repr_of_none ⟨.str _, H, I.tok _, ⟨_, rfl⟩, q⟩
  | bl b =>
    obtain rfl : u = Value.bool b := ru
    exact PySem.P.repr_of_bool ⟨.str _, H, I.tok _, ⟨_, rfl⟩, q⟩
  | int i =>
    obtain ⟨t, rfl⟩ := ru
    exact PySem.P.repr_of_int (by simpa [PyData.showable] using hs) ⟨.str _, H, I.tok _, ⟨_, rfl⟩, q⟩
  | str z =>
    obtain ⟨t, rfl⟩ := ru
    exact PySem.P.repr_of_str ⟨.str _, H, I.tok _, ⟨_, rfl⟩, q⟩ hl
  | @lst a xs ds e k =>
    obtain ⟨as, rd, hn⟩ := Dq.reads I hm (.list ds) _ u (.lst e k) ru
    obtain rfl : u = Value.ref a := ru
    refine repr_of_reads' rd hs (fun _ => hn) hg (by omega) (fun _ _ z => z) (fun h' u tk hk => ?_) hl
    exact ⟨.str _, H, I.kept hk, ⟨_, rfl⟩, q⟩
  | @tup a xs ds e k =>
    obtain ⟨as, rd, hn⟩ := Dq.reads I hm (.tuple ds) _ u (.tup e k) ru
    obtain rfl : u = Value.ref a := ru
    refine repr_of_reads' rd hs (fun _ => hn) hg (by omega) (fun _ _ z => z) (fun h' u tk hk => ?_) hl
    exact ⟨.str _, H, I.kept hk, ⟨_, rfl⟩, q⟩
  | @dic a kvs ds e k =>
    obtain ⟨as, rd, hn⟩ := Dq.reads I hm (.dict ds) _ u (.dic e k) ru
    obtain rfl : u = Value.ref a := ru
    refine repr_of_reads' rd hs (fun _ => hn) hg (by omega) (fun _ _ z => z) (fun h' u tk hk => ?_) hl
    exact ⟨.str _, H, I.kept hk, ⟨_, rfl⟩, q⟩
end
/-! ### how great a thing is -/
def Gd (n m : Nat) (d : PyData) : Prop := d.showable = true ∧ d.leavesShort 120 = true ∧ d.weight ≤ n ∧ d.depth ≤ m
def GdAll (n m : Nat) (ds : List PyData) : Prop := PyData.showableAll ds = true ∧ PyData.leavesShortAll 120 ds = true ∧ PyData.weightAll ds ≤ n ∧ PyData.depthAll ds ≤ m
theorem Gd.mono {n m n' m' : Nat} {d : PyData} (h : Gd n m d) (a : n ≤ n') (b : m ≤ m') : Gd n' m' d := ⟨h.1, h.2.1, by have := h.2.2.1; omega, by have := h.2.2.2; omega⟩
theorem GdAll.mono {n m n' m' : Nat} {d : List PyData} (h : GdAll n m d) (a : n ≤ n') (b : m ≤ m') : GdAll n' m' d := ⟨h.1, h.2.1, by have := h.2.2.1; omega, by have := h.2.2.2; omega⟩
theorem GdAll.nil {n m : Nat} : GdAll n m [] := ⟨by simp [PyData.showableAll], by simp [PyData.leavesShortAll], by simp [PyData.weightAll], by simp [PyData.depthAll]⟩
theorem GdAll.cons {a b m : Nat} {d : PyData} {ds : List PyData} (h : Gd a m d) (k : GdAll b m ds) : GdAll (a + 1 + b) m (d :: ds) := by
  obtain ⟨h1, h2, h3, h4⟩ := h
  obtain ⟨k1, k2, k3, k4⟩ := k
  refine ⟨by simp [PyData.showableAll, h1, k1], by simp [PyData.leavesShortAll, h2, k2], ?_, ?_⟩
  · simp only [PyData.weightAll]
    omega
  · simp only [PyData.depthAll]
    omega
theorem GdAll.head {n m : Nat} {d : PyData} {ds : List PyData} (h : GdAll n m (d :: ds)) : ∃ a b, a + 1 + b ≤ n ∧ Gd a m d ∧ GdAll b m ds := by
  obtain ⟨h1, h2, h3, h4⟩ := h
  simp only [PyData.showableAll, Bool.and_eq_true] at h1
  simp only [PyData.leavesShortAll, Bool.and_eq_true] at h2
  simp only [PyData.weightAll] at h3
  simp only [PyData.depthAll] at h4
  exact ⟨d.weight, PyData.weightAll ds, h3, ⟨h1.1, h2.1, Nat.le_refl _, by omega⟩, ⟨h1.2, h2.2, Nat.le_refl _, by omega⟩⟩
theorem GdAll.append {m : Nat} : ∀ {a b : Nat} {xs ys : List PyData}, GdAll a m xs → GdAll b m ys → GdAll (a + b) m (xs ++ ys)
  | _, _, [], _, _, k => k.mono (by omega) (by omega)
  | a, b, x :: xs, _, h, k => by
    obtain ⟨u, v, e, h1, h2⟩ := h.head
    exact (GdAll.cons h1 (GdAll.append h2 k)).mono (by omega) (by omega)
theorem GdAll.split {m : Nat} : ∀ {n : Nat} (xs : List PyData) {ys : List PyData}, GdAll n m (xs ++ ys) → ∃ a b, a + b ≤ n ∧ GdAll a m xs ∧ GdAll b m ys
  | n, [], _, h => ⟨0, n, by omega, .nil, h⟩
  | n, x :: xs, _, h => by
    obtain ⟨u, v, e, h1, h2⟩ := GdAll.head (show GdAll n m (x :: (xs ++ _)) from h)
    obtain ⟨a, b, e2, k1, k2⟩ := GdAll.split xs h2
    exact ⟨u + 1 + a, b, by omega, .cons h1 k1, k2⟩
theorem GdAll.cut {n m : Nat} {ds : List PyData} (i : Nat) (h : GdAll n m ds) : ∃ a b, a + b ≤ n ∧ GdAll a m (ds.take i) ∧ GdAll b m (ds.drop i) := by
  rw [← List.take_append_drop i ds] at h
  exact GdAll.split _ h
theorem GdAll.take {n m : Nat} {ds : List PyData} (i : Nat) (h : GdAll n m ds) : GdAll n m (ds.take i) := by
  obtain ⟨a, b, e, h1, _⟩ := h.cut i
  exact h1.mono (by omega) (by omega)
theorem GdAll.drop {n m : Nat} {ds : List PyData} (i : Nat) (h : GdAll n m ds) : GdAll n m (ds.drop i) := by
  obtain ⟨a, b, e, _, h1⟩ := h.cut i
  exact h1.mono (by omega) (by omega)
theorem GdAll.rev {m : Nat} : ∀ {n : Nat} {ds : List PyData}, GdAll n m ds → GdAll n m ds.reverse
  | _, [], h => h
  | n, x :: xs, h => by
    obtain ⟨u, v, e, h1, h2⟩ := h.head
    rw [List.reverse_cons]
    exact ((GdAll.rev h2).append (GdAll.cons h1 (GdAll.nil (n := 0)))).mono (by omega) (by omega)
theorem GdAll.get {m : Nat} : ∀ {n : Nat} {ds : List PyData} {i : Nat} {d : PyData}, GdAll n m ds → ds[i]? = some d → Gd n m d
  | _, [], _, _, _, e => by simp at e
  | n, x :: xs, 0, d, h, e => by
    obtain ⟨u, v, e2, h1, h2⟩ := h.head
    cases (Option.some.inj e)
    exact h1.mono (by omega) (by omega)
  | n, x :: xs, i + 1, d, h, e => by
    obtain ⟨u, v, e2, h1, h2⟩ := h.head
    exact (GdAll.get (i := i) h2 (show xs[i]? = some d from e)).mono (by omega) (by omega)
theorem Gd.tup {n m : Nat} {ds : List PyData} (h : GdAll n m ds) : Gd n (m + 1) (.tuple ds) := by
  obtain ⟨h1, h2, h3, h4⟩ := h
  exact ⟨by simp only [PyData.showable]; exact h1, by simp only [PyData.leavesShort]; exact h2, by simp only [PyData.weight]; exact h3, by simp only [PyData.depth]; omega⟩
theorem Gd.lst {n m : Nat} {ds : List PyData} (h : GdAll n m ds) : Gd n (m + 1) (.list ds) := by
  obtain ⟨h1, h2, h3, h4⟩ := h
  exact ⟨by simp only [PyData.showable]; exact h1, by simp only [PyData.leavesShort]; exact h2, by simp only [PyData.weight]; exact h3, by simp only [PyData.depth]; omega⟩
theorem Gd.of_tup {n m : Nat} {ds : List PyData} (h : Gd n m (.tuple ds)) : GdAll n m ds := by
  obtain ⟨h1, h2, h3, h4⟩ := h
  simp only [PyData.showable] at h1
  simp only [PyData.leavesShort] at h2
  simp only [PyData.weight] at h3
  simp only [PyData.depth] at h4
  exact ⟨h1, h2, h3, by omega⟩
theorem Gd.shown {n m : Nat} {d : PyData} (h : Gd n m d) (hn : n ≤ 100000) : d.shown.length ≤ sizeLine := by
  have z := PyData.shown_le 120 (by decide) d h.2.1
  have k := h.2.2.1
  have e : sizeLine = 16777216 := by decide
  omega
theorem Gd.int {i : Int} {k : Nat} (hk : 0 < k) (hk2 : k ≤ 110) (h : i.natAbs < 2 ^ k) : Gd (k + 1) 0 (.int i) := by
  refine ⟨?_, ?_, ?_, ?_⟩
  · simp only [PyData.showable, decide_eq_true_eq]
    exact Nat.lt_of_lt_of_le (PySem.Flt.log2_lt_of hk h) (by omega)
  · simp only [PyData.leavesShort, decide_eq_true_eq]
    have z := PySem.Flt.log2_lt_of hk h
    have e := int_text_length_le (a := i) (k := k) hk z
    show (Str.ofString (toString i)).length ≤ 120
    rw [PySem.ofString_length]
    omega
  · have z := PySem.Flt.log2_lt_of hk h
    simp only [PyData.weight]
    split <;> omega
  · simp [PyData.depth]
/-! ### the mathematics -/
def isInt : PyData → Bool
  | .int _ => true
  | _ => false
def isTup : PyData → Bool
  | .tuple _ => true
  | _ => false
def isNumD (p : Int) : PyData → Bool
  | .int i => decide (0 ≤ i) && decide (i < p)
  | _ => false
def isPairD (p : Int) : PyData → Bool
  | .tuple [x, y] => isNumD p x && isNumD p y
  | _ => false
def isRowD (p n : Int) : PyData → Bool
  | .tuple ds => decide ((ds.length : Int) = n) && ds.all (isPairD p)
  | _ => false
theorem Dq.ty {K : PySem.W.Frag} {H : Hp} {x : V} {d : PyData} (h : Dq H x d) : ∃ t, TyB1 K H x t ∧ (isB t "int" && !isB t "bool") = isInt d ∧ isB t "tuple" = isTup d := by
  cases h with
  | non => exact ⟨"NoneType", ⟨.base .non, by simp⟩, by decide +kernel, by decide +kernel⟩
  | bl b => exact ⟨"bool", ⟨.base (.bl b), by simp⟩, (by show (isB "bool" "int" && !isB "bool" "bool") = false; decide +kernel), (by show isB "bool" "tuple" = false; decide +kernel)⟩
  | int i => exact ⟨"int", ⟨.base (.int i), by simp⟩, (by show (isB "int" "int" && !isB "int" "bool") = true; decide +kernel), (by show isB "int" "tuple" = false; decide +kernel)⟩
  | str z => exact ⟨"str", ⟨.base (.str z), by simp⟩, (by show (isB "str" "int" && !isB "str" "bool") = false; decide +kernel), (by show isB "str" "tuple" = false; decide +kernel)⟩
  | lst e k => exact ⟨"list", ⟨.base (.lst e), by simp⟩, (by show (isB "list" "int" && !isB "list" "bool") = false; decide +kernel), (by show isB "list" "tuple" = false; decide +kernel)⟩
  | tup e k => exact ⟨"tuple", ⟨.base (.tup e), by simp⟩, (by show (isB "tuple" "int" && !isB "tuple" "bool") = false; decide +kernel), (by show isB "tuple" "tuple" = true; decide +kernel)⟩
  | dic e _ => exact ⟨"dict", ⟨.base (.dK e), by simp⟩, (by show (isB "dict" "int" && !isB "dict" "bool") = false; decide +kernel), (by show isB "dict" "tuple" = false; decide +kernel)⟩
theorem isInt_of {H : Hp} {x : V} {d : PyData} (h : Dq H x d) (e : isInt d = true) : ∃ i, x = .int i ∧ d = .int i := by
  cases h <;> first | exact ⟨_, rfl, rfl⟩ | cases e
theorem isTup_of {H : Hp} {x : V} {d : PyData} (h : Dq H x d) (e : isTup d = true) : ∃ a xs ds, x = .ref a ∧ H a = some (.tup xs) ∧ DqAll H xs ds ∧ d = .tuple ds := by
  cases h <;> first | exact ⟨_, _, _, rfl, by assumption, by assumption, rfl⟩ | cases e
theorem num_false {p : Int} {d : PyData} (e : isInt d = false) : isNumD p d = false := by
  cases d <;> first | rfl | cases e
theorem row_false {p n : Int} {d : PyData} (e : isTup d = false) : isRowD p n d = false := by
  cases d <;> first | rfl | cases e
theorem pair_false {p : Int} {d : PyData} (e : isTup d = false) : isPairD p d = false := by
  cases d <;> first | rfl | cases e
theorem pair_len {p : Int} {ds : List PyData} (e : ¬ ((ds.length : Int) = 2)) : isPairD p (.tuple ds) = false := by
  match ds, e with
  | [], _ => rfl
  | [_], _ => rfl
  | [_, _], e => exact absurd rfl e
  | _ :: _ :: _ :: _, _ => rfl
theorem two_of {ds : List PyData} (e : (ds.length : Int) = 2) : ∃ x y, ds = [x, y] := by
  match ds, e with
  | [x, y], _ => exact ⟨x, y, rfl⟩
  | [], e => cases e
  | [_], e => cases e
  | _ :: _ :: _ :: r, e =>
    have e2 : ((r.length + 3 : Nat) : Int) = 2 := e
    omega
/-! ### t[::-1], t == () -/
section
open PySem.Spec PyProof.Rows PySem.Builtin HT
variable {prog : Program} {w : World} {A : Around} {E : Value → Shared → Prop} {s : Shared}
theorem adjust_back (n : Nat) : Slice.sliceAdjust none none (-1) (n : Int) = ((n : Int) - 1, -1) := by
  unfold Slice.sliceAdjust
  simp
theorem places_back (n : Nat) : Slice.slicePlaces ((n : Int) - 1) (-1) (-1) = n := by
  unfold Slice.slicePlaces
  rw [if_neg (by decide)]
  split
  · simp
  · omega
theorem applied_back {sl : Addr} {t : Tok} {n : Nat} {Q : Int × Int × Nat → Shared → Prop} (hs : s.heap.IsSliceOf sl .none .none (.int (-1) t))
    (h : Q ((n : Int) - 1, -1, n) s) : wpAny (model prog w) A (Slice.sliceApplied (.ref sl) (pure (n : Int))) Q E s := by
  obtain ⟨os, hos, hcs, hds⟩ := id hs
  unfold Slice.sliceApplied Slice.sliceFields
  refine wpAny_bind (wpAny_bind (wpAny_field hos hds (x := .none) rfl ?_))
  refine wpAny_bind (wpAny_field hos hds (x := .none) rfl ?_)
  refine wpAny_bind (wpAny_field hos hds (x := .int (-1) t) rfl (wpAny_pure ?_))
  refine wpAny_bind (slicePart_int ?_)
  show wpAny _ _ (if ((-1 : Int) == 0) = true then _ else _) _ _ s
  rw [if_neg (by decide)]
  refine wpAny_bind (slicePart_none ?_)
  refine wpAny_bind (slicePart_none ?_)
  refine wpAny_bind (wpAny_pure ?_)
  show wpAny _ _ (match Slice.sliceAdjust none none (-1) (n : Int) with | (lo, hi) => pure (lo, (-1 : Int), Slice.slicePlaces lo hi (-1))) _ _ s
  rw [adjust_back]
  show wpAny _ _ (pure ((n : Int) - 1, (-1 : Int), Slice.slicePlaces ((n : Int) - 1) (-1) (-1))) _ _ s
  rw [places_back]
  exact wpAny_pure h
theorem fm_some {α β : Type} (f : α → Option β) (g : α → β) : ∀ l : List α, (∀ x ∈ l, f x = some (g x)) → l.filterMap f = l.map g
  | [], _ => rfl
  | x :: r, h => by
    rw [List.filterMap_cons, h x (List.mem_cons_self ..), fm_some f g r fun y hy => h y (List.mem_cons_of_mem _ hy)]
    rfl
theorem pick_back (xs : Array Value) : ((List.range xs.size).filterMap fun (m : Nat) => xs[(((xs.size : Int) - 1) + (m : Int) * (-1)).toNat]?).toArray = xs.toList.reverse.toArray := by
  congr 1
  rw [fm_some _ (fun m => xs.toList.getD (xs.size - 1 - m) Value.none) _ fun m hm => ?_]
  · apply List.ext_getElem?
    intro i
    rw [List.getElem?_map]
    by_cases h : i < xs.size
    · have hr : (List.range xs.size)[i]? = some i := List.getElem?_range h
      rw [hr, List.getElem?_reverse (by rw [Array.length_toList]; exact h), Array.length_toList]
      have h2 : xs.size - 1 - i < xs.toList.length := by
        rw [Array.length_toList]
        omega
      show some (xs.toList.getD (xs.size - 1 - i) Value.none) = _
      rw [List.getD_eq_getElem?_getD, List.getElem?_eq_getElem h2]
      rfl
    · rw [List.getElem?_eq_none (by rw [List.length_range]; omega), List.getElem?_eq_none (by rw [List.length_reverse, Array.length_toList]; omega)]
      rfl
  · have h := List.mem_range.mp hm
    have e : (((xs.size : Int) - 1) + (m : Int) * (-1)).toNat = xs.size - 1 - m := by omega
    have h2 : xs.size - 1 - m < xs.toList.length := by
      rw [Array.length_toList]
      omega
    rw [e, ← Array.getElem?_toList, List.getD_eq_getElem?_getD, List.getElem?_eq_getElem h2]
    rfl
theorem item_back {t sl : Addr} {items : Array Value} {tk : Tok} {Q : Value → Shared → Prop} (ht : IsTup s.heap t items) (hs : s.heap.IsSliceOf sl .none .none (.int (-1) tk))
    (h : Q (.ref s.heap.objs.size) { s with heap := s.heap.push { cls := .type "tuple", data := .seq items.toList.reverse.toArray } })
    (hsz : items.size ≤ sizeLine) : wpAny (model prog w) A (getItem (.ref t) (.ref sl)) Q E s := by
  have fits : sizeOk (.seq items.toList.reverse.toArray) := by
    show items.toList.reverse.toArray.size ≤ sizeLine
    rw [List.size_toArray, List.length_reverse, Array.length_toList]
    exact hsz
  obtain ⟨os, hos, hcs, hds⟩ := id hs
  have ty : s.TypeIs (.ref sl) "slice" := ⟨os, hos, hcs⟩
  unfold getItem
  try with_reducible refine wpAny_holding ?_
  first
  | refine wpAny_bind (wpAny_pure ?_)
  | skip
  refine wpAny_bind (wpAny_sequenceKey ht.typeIs (by decide) ?_)
  refine wpAny_bind (wpAny_callSpecial?_slot (name := Str.ofString "__getitem__") ht.typeIs slot_tuple_getitem ?_)
  refine wpAny_call_entry slot_tuple_getitem ht.typeIs entry_tuple_getitem ?_ (args_tuple_getitem _ _)
  show wpAny _ _ (Tuple.tupleItemsOf (.ref t) >>= _) _ _ s
  refine wpAny_bind (tupleItemsOf_ ht ?_)
  refine wpAny_bind (wpAny_typeOf ty ?_)
  rw [if_pos (by decide)]
  refine wpAny_bind (applied_back hs ?_)
  have no : ¬ ((((items.size : Int) - 1) == 0 && (-1 : Int) == 1 && items.size == items.size) = true) := by
    intro z
    rw [Bool.and_eq_true, Bool.and_eq_true] at z
    exact absurd (eq_of_beq z.1.2) (by decide)
  show wpAny _ _ (if (((items.size : Int) - 1) == 0 && (-1 : Int) == 1 && items.size == items.size) = true then _ else _) _ _ s
  rw [if_neg no, pick_back]
  first
  | exact wpAny_bind (m := Tuple.tupleExact _) (wpAny_newObj_type (wpAny_pure ⟨_, rfl, wpAny_pure h⟩) fits)
  | exact wpAny_bind (m := Tuple.tupleExact _) (wpAny_newObj_type (wpAny_bind (wpAny_pure (wpAny_pure ⟨_, rfl, wpAny_pure h⟩))) fits)
  | exact wpAny_bind (wpAny_bind (m := Tuple.tupleExact _) (wpAny_newObj_type (wpAny_pure (wpAny_pure ⟨_, rfl, wpAny_pure h⟩)) fits))
  | exact wpAny_bind (wpAny_bind (m := Tuple.tupleExact _) (wpAny_newObj_type (wpAny_pure ⟨_, rfl, wpAny_pure h⟩) fits))
end
section
open PySem.Spec PyProof.Rows
variable {X : Cx}
def tRevT (K : PySem.W.Frag) (te : TE) : TE := fun σ H Q => te σ H fun x H1 => ∃ a xs, x = .ref a ∧ SqT K H1 a xs ∧ ∀ p, H1 p = none → Q (.ref p) (upd H1 p (.tup xs.reverse))
theorem pe_revT {e : Expr} {te : TE} {k : Nat} {p1 p2 p3 pos : Pos} (he : PE X e te) : PE X (.Subscript e (.Slice none none (some (.UnaryOp .USub (.Constant (.int 1) k p1) p2)) p3) pos) (tRevT X.K te) := by
  refine ⟨fun pins s σ H Q I h => Subscript_ (thn (he.run pins s σ H _ I h) fun v s1 ⟨x, H1, I1, r1, a, xs, ex, hx, q⟩ => ?_)⟩
  subst ex
  cases r1
  have back : PO X (some (.UnaryOp .USub (.Constant (.int 1) k p1) p2)) (tPart (tUn (rU fun i => .int (-i)) (tC (.int 1)))) := po_some (pe_un un_neg pe_int)
  refine wpAny_Slice (thn (po_none.run pins s1 σ H1 (fun o G => o = none ∧ G = H1) I1 ⟨rfl, rfl⟩) fun v1 s2 ⟨o1, G1, I2, part1, e1, g1⟩ => ?_)
  subst e1 g1
  refine thn (po_none.run pins s2 σ G1 (fun o G => o = none ∧ G = G1) I2 ⟨rfl, rfl⟩) fun v2 s3 ⟨o2, G2, I3, part2, e2, g2⟩ => ?_
  subst e2 g2
  refine thn (back.run pins s3 σ G2 (fun o G => o = some (-1) ∧ G = G2) I3 ⟨1, rfl, -1, rfl, rfl, rfl⟩) fun v3 s4 ⟨o3, G3, I4, part3, e3, g3⟩ => ?_
  subst e3 g3
  cases part1
  cases part2
  cases part3 with
  | int i tk =>
    have I5 : L2.Inv X pins σ G3 { s4 with heap := s4.heap.push { cls := .type "slice", data := .fields #[.none, .none, .int (-1) tk] } } := I4.kept (t' := s4.toks) fun b ob z => Heap.get?_push_of_some _ z
    obtain ⟨its, r, ht, hz⟩ := I5.tuple hx
    have hlen := r.length
    show wpAny (model X.prog X.w) X.A (subscriptTail e _ (.ref a) (.ref s4.heap.objs.size)) (EP X pins σ Q) X.xe _
    refine tail_any (ops := [.ref a, .ref s4.heap.objs.size]) ht.typeIs slot_tuple_getitem.lookup ?_ (by with_unfolding_all rfl)
    refine item_back ht (Heap.IsSliceOf.new _ .none .none (.int (-1) tk)) ?_ (by rw [List.size_toArray]; omega)
    refine ⟨.ref _, _, I5.laid (t' := s4.toks) (o := .tup xs.reverse) (fun b ob z => Heap.get?_push_of_some _ z) (Nat.le_refl _) ?_, rfl, q _ (I5.hok.fresh (Nat.le_refl _))⟩
    exact ⟨by rw [List.length_reverse]; exact hz, its.reverse, r.reverse, _, Heap.get?_push_size _ rfl, rfl, _, rfl⟩
/-- t == u for tuples of which the second is empty -/
theorem op_eqT0 (hu : X.A.units + 80 < cLine) : OpR X (compareOp .Eq) (fun x y H Q => ∃ a b xs, x = .ref a ∧ y = .ref b ∧ SqT X.K H a xs ∧ SqT X.K H b [] ∧ Q (.bl xs.isEmpty) H) := by
  intro pins s σ H x y v u Q I rx ry h
  obtain ⟨a, b, xs, rfl, rfl, ha, hb, q⟩ := h
  cases rx
  cases ry
  obtain ⟨its, r, ht, hz⟩ := I.tuple ha
  obtain ⟨its2, r2, ht2, _⟩ := I.tuple hb
  cases r2
  refine SeqAt.eq_tupleAt (e := fun _ => true) ht ht2 (by omega) (fun j h1 h2 => absurd h2 (by simp)) ?_
  refine ⟨.bl xs.isEmpty, H, I, ?_, q⟩
  cases r with
  | nil => rfl
  | cons _ _ =>
    simp
    rfl
end
/-! ### xs == [], xs != [] of lists of anything -/
section
open PySem.Spec PyProof.Rows
variable {X : Cx}
def rEqL0 (K : PySem.W.Frag) : R2 := fun x y H Q => ∃ a b xs, x = .ref a ∧ y = .ref b ∧ SqL K H a xs ∧ SqL K H b [] ∧ Q (.bl xs.isEmpty) H
def rNeL0 (K : PySem.W.Frag) : R2 := fun x y H Q => ∃ a b xs, x = .ref a ∧ y = .ref b ∧ SqL K H a xs ∧ SqL K H b [] ∧ Q (.bl (!xs.isEmpty)) H
theorem op_eqL0 (hu : X.A.units + 80 < cLine) : OpR X (compareOp .Eq) (rEqL0 X.K) := by
  intro pins s σ H x y v u Q I rx ry h
  obtain ⟨a, b, xs, rfl, rfl, ha, hb, q⟩ := h
  cases rx
  cases ry
  obtain ⟨its, r, ht, hz⟩ := I.list ha
  obtain ⟨its2, r2, ht2, _⟩ := I.list hb
  cases r2
  cases r with
  | nil => exact SeqAt.eq_listAt (e := fun _ => true) ht.isList ht2.isList rfl (by omega) (fun j h1 h2 => absurd h2 (by simp)) ⟨.bl true, H, I, rfl, q⟩
  | cons _ _ => exact SeqAt.eq_list_lengthsAt ht.isList ht2.isList (by simp) (by omega) ⟨.bl false, H, I, rfl, q⟩
theorem op_neL0 (hu : X.A.units + 80 < cLine) : OpR X (compareOp .NotEq) (rNeL0 X.K) := by
  intro pins s σ H x y v u Q I rx ry h
  obtain ⟨a, b, xs, rfl, rfl, ha, hb, q⟩ := h
  cases rx
  cases ry
  obtain ⟨its, r, ht, hz⟩ := I.list ha
  obtain ⟨its2, r2, ht2, _⟩ := I.list hb
  cases r2
  cases r with
  | nil => exact SeqAt.RcNeAt.lists (e := fun _ => true) ht.isList ht2.isList rfl (by omega) (fun j h1 h2 => absurd h2 (by simp)) _ _ _ _ ⟨.bl false, H, I, rfl, q⟩
  | cons _ _ => exact SeqAt.RcNeAt.lists_lengths ht.isList ht2.isList (by simp) (by omega) _ _ _ _ ⟨.bl true, H, I, rfl, q⟩
end
/-! ### t * 2, t empty or not -/
section
open PySem.Spec PyProof.Rows
theorem tuple_mulE (l : Addr) (n : Nat) (dd : Option Addr) (sl : Array (Option Value)) (u : Tok) :
    Meets (Builtin.«tuple.__mul__» ⟨[.ref l, .int 2 u], []⟩) (fun _ R s => s.heap.get? l = some { cls := .type "tuple", dict := dd, data := .seq #[] n, slots := sl } ∧ R (.ok (.ret (Value.ref l))) s) :=
  .of_wp fun prog w A R s h => by
    obtain ⟨hp, g, d, tk, os⟩ := s
    obtain ⟨hl, h⟩ := h
    have f1 := AutoSeq1.idx_int
    wp_walk using wpAny_loadPart' hl
    repeat (first
      | (refine wpAny_ite_false (decide_eq_false (by decide)) ?_; wp_walk using wpAny_loadPart' hl)
      | (refine wpAny_ite_true (decide_eq_true (by simp)) ?_; wp_walk using wpAny_loadPart' hl))
    exact ⟨_, rfl, h⟩
variable {X : Cx}
def rRep2 (K : PySem.W.Frag) : R2 := fun x y H Q => ∃ l xs, x = .ref l ∧ y = .int 2 ∧ SqT K H l xs ∧ xs.length ≤ 1000 ∧ (xs = [] → Q (.ref l) H) ∧ (xs ≠ [] → ∀ p, H p = none → Q (.ref p) (upd H p (.tup (xs ++ xs))))
theorem op_rep2 : OpR X (binaryOp .Mult) (rRep2 X.K) := by
  intro pins s σ H x y v u Q I rx ry h
  obtain ⟨l, xs, rfl, rfl, hT, hz, q0, q1⟩ := h
  by_cases hne : xs = []
  · subst hne
    cases rx
    obtain ⟨t, rfl⟩ := ry
    obtain ⟨its, r, ⟨⟨cls, dd, data, sl⟩, ho, hc, n, hd⟩, hs⟩ := I.tuple hT
    cases r
    simp only at hc hd
    subst hc hd
    refine wpAny_binaryOp_repeat_ref (T := "tuple") (U := "int") (by decide) ⟨_, ho, rfl⟩ (fun s' => typeIs_int s' 2 t) noFill_tuple_mul F.fills_int_mul F.slot_int_rmul repeat_tuple F.slot_int_index.lookup
      (call_meets F.slot_int_rmul (typeIs_int s 2 t) F.entry_int_rmul (F.args_int_rmul_2 _ _) (int_rmul_tuple 2 t l #[] n dd sl)
        ⟨ho, rfl, ⟨_, ho, rfl⟩, call_meets F.slot_tuple_mul ⟨_, ho, rfl⟩ F.entry_tuple_mul (F.args_tuple_mul_2 _ _) (tuple_mulE l n dd sl t) ⟨ho, ?_⟩⟩)
    exact ⟨.ref l, H, I, rfl, q0 rfl⟩
  · refine op_repT pins s σ H _ _ v u Q I rx ry ⟨l, 2, xs, rfl, rfl, hT, hne, by decide, by decide, hz, fun p hp => ?_⟩
    have e : (List.replicate (2 : Int).toNat xs).flatten = xs ++ xs := by
      show xs ++ (xs ++ []) = xs ++ xs
      rw [List.append_nil]
    rw [e]
    exact q1 hne p hp
end
/-! ### things beside the deck -/
def cut (d g : Addr) (H : Hp) : Hp := fun a => if a = d ∨ a = g then none else H a
theorem cut_same {d g : Addr} {H : Hp} : Same (cut d g H) H := fun a o e => by
  unfold cut at e
  split at e
  · cases e
  · exact e
theorem cut_at {d g a : Addr} {H : Hp} {o : HO} (h1 : a ≠ d) (h2 : a ≠ g) (e : H a = some o) : cut d g H a = some o := by
  unfold cut
  rw [if_neg (fun z => z.elim h1 h2)]
  exact e
theorem Fr.cut {d g : Addr} {H H' : Hp} (f : Fr d g H H') : Same (cut d g H) (cut d g H') := fun a o e => by
  unfold Kp.cut at e ⊢
  split at e
  · cases e
  · rename_i n
    rw [if_neg n]
    exact f a o (fun z => n (.inl z)) (fun z => n (.inr z)) e
theorem cut_upd {d g L : Addr} {H : Hp} {o : HO} : Fr L L (cut d g H) (cut d g (upd H L o)) := fun a x h1 _ e => by
  unfold Kp.cut at e ⊢
  split at e
  · cases e
  · rename_i n
    rw [if_neg n, upd_ne h1]
    exact e
def Thg (d g : Addr) (n m : Nat) (H : Hp) (x : V) : Prop := ∃ dd, Dq (cut d g H) x dd ∧ Gd n m dd
def Ths (d g : Addr) (n m : Nat) (H : Hp) (xs : List V) : Prop := ∃ ds, DqAll (cut d g H) xs ds ∧ GdAll n m ds
section
variable {d g c : Addr} {k : Int} {n m n' m' : Nat} {H H' : Hp} {x : V} {xs ys : List V}
theorem Thg.fr (h : Thg d g n m H x) (f : Fr d g H H') : Thg d g n m H' x := let ⟨dd, h1, h2⟩ := h; ⟨dd, h1.same f.cut, h2⟩
theorem Ths.fr (h : Ths d g n m H xs) (f : Fr d g H H') : Ths d g n m H' xs := let ⟨dd, h1, h2⟩ := h; ⟨dd, h1.same f.cut, h2⟩
theorem Thg.mono (h : Thg d g n m H x) (a : n ≤ n') (b : m ≤ m') : Thg d g n' m' H x := let ⟨dd, h1, h2⟩ := h; ⟨dd, h1, h2.mono a b⟩
theorem Ths.mono (h : Ths d g n m H xs) (a : n ≤ n') (b : m ≤ m') : Ths d g n' m' H xs := let ⟨dd, h1, h2⟩ := h; ⟨dd, h1, h2.mono a b⟩
theorem Ths.nil : Ths d g n m H [] := ⟨[], .nil, .nil⟩
theorem Ths.cons (h : Thg d g n m H x) (t : Ths d g n' m H xs) : Ths d g (n + 1 + n') m H (x :: xs) := let ⟨a, h1, h2⟩ := h; let ⟨b, t1, t2⟩ := t; ⟨a :: b, .cons h1 t1, .cons h2 t2⟩
theorem Ths.append (h : Ths d g n m H xs) (t : Ths d g n' m H ys) : Ths d g (n + n') m H (xs ++ ys) := let ⟨a, h1, h2⟩ := h; let ⟨b, t1, t2⟩ := t; ⟨a ++ b, h1.append t1, h2.append t2⟩
theorem Ths.cutV (h : Ths d g n m H xs) (lo hi : Option Int) : Ths d g n m H (cutV xs lo hi) := let ⟨_, h1, h2⟩ := h; ⟨_, (h1.drop _).take _, (h2.drop _).take _⟩
theorem Ths.rev (h : Ths d g n m H xs) : Ths d g n m H xs.reverse := let ⟨_, h1, h2⟩ := h; ⟨_, h1.rev, h2.rev⟩
theorem Ths.get {i : Nat} (h : Ths d g n m H xs) (e : xs[i]? = some x) : Thg d g n m H x := by
  obtain ⟨ds, h1, h2⟩ := h
  obtain ⟨dd, e1, e2⟩ := h1.get e
  exact ⟨dd, e2, h2.get e1⟩
theorem GdAll.len {m : Nat} : ∀ {n : Nat} {ds : List PyData}, GdAll n m ds → ds.length ≤ n
  | _, [], _ => Nat.zero_le _
  | n, _ :: r, h => by
    obtain ⟨u, v, e, h1, h2⟩ := h.head
    have z := GdAll.len h2
    show r.length + 1 ≤ n
    omega
theorem Ths.len (h : Ths d g n m H xs) : xs.length ≤ n := by
  obtain ⟨ds, h1, h2⟩ := h
  rw [h1.length]
  exact h2.len
theorem Thg.newT {p : Addr} (D : Dk d g c k H) (hp : H p = none) (h : Ths d g n m H xs) : Thg d g n (m + 1) (upd H p (.tup xs)) (.ref p) := by
  obtain ⟨ds, h1, h2⟩ := h
  have np := D.nd hp
  exact ⟨.tuple ds, .tup (cut_at np.1 np.2.1 upd_same) (h1.same (Fr.new hp).cut), .tup h2⟩
theorem Thg.newL {p : Addr} (D : Dk d g c k H) (hp : H p = none) (h : Ths d g n m H xs) : Thg d g n (m + 1) (upd H p (.lst xs)) (.ref p) := by
  obtain ⟨ds, h1, h2⟩ := h
  have np := D.nd hp
  exact ⟨.list ds, .lst (cut_at np.1 np.2.1 upd_same) (h1.same (Fr.new hp).cut), .lst h2⟩
theorem Thg.tupOf {a : Addr} (e : H a = some (.tup xs)) (h1 : a ≠ d) (h2 : a ≠ g) (t : Ths d g n m H xs) : Thg d g n (m + 1) H (.ref a) := by
  obtain ⟨ds, k1, k2⟩ := t
  exact ⟨.tuple ds, .tup (cut_at h1 h2 e) k1, .tup k2⟩
theorem Thg.int {i : Int} (h : i.natAbs < 2 ^ 110) : Thg d g 111 m H (.int i) := ⟨.int i, .int i, (Gd.int (by decide) (by decide) h).mono (Nat.le_refl _) (Nat.zero_le _)⟩
theorem Thg.small {i : Int} (h : i.natAbs < 16) : Thg d g 5 m H (.int i) := ⟨.int i, .int i, (Gd.int (k := 4) (by decide) (by decide) h).mono (Nat.le_refl _) (Nat.zero_le _)⟩
theorem Ths.pick {r : Int} (h : Ths d g n m H xs) (h0 : 0 ≤ r) (h1 : r < xs.length) : ∃ y, atI xs r = some y ∧ Thg d g n m H y := by
  obtain ⟨j, rfl⟩ := Int.eq_ofNat_of_zero_le h0
  have hj : j < xs.length := by omega
  exact ⟨xs[j], atI_nat (List.getElem?_eq_getElem hj), h.get (List.getElem?_eq_getElem hj)⟩
theorem Ths.at_ {r : Int} (h : Ths d g n m H xs) (h0 : 0 ≤ r) (h1 : r < xs.length) : ∃ y, atI xs r = some y ∧ Thg d g n m H y := h.pick h0 h1
theorem Thg.bl {b : Bool} : Thg d g n m H (.bl b) := ⟨.bool b, .bl b, by simp [PyData.showable], by simp [PyData.leavesShort], by simp [PyData.weight], by simp [PyData.depth]⟩
theorem Thg.non : Thg d g n m H .non := ⟨.none, .non, by simp [PyData.showable], by simp [PyData.leavesShort], by simp [PyData.weight], by simp [PyData.depth]⟩
theorem Thg.str {z : Str} (h1 : PyData.leavesShort 120 (.str z) = true) (h2 : z.cps.size ≤ n) : Thg d g n m H (.str z) := ⟨.str z, .str z, by simp [PyData.showable], h1, by simpa [PyData.weight] using h2, by simp [PyData.depth]⟩
theorem Thg.dic {p : Addr} (D : Dk d g c k H) (hp : H p = none) : Thg d g n (m + 1) (upd H p (.dK [])) (.ref p) := by
  have np := D.nd hp
  exact ⟨.dict [], .dic (cut_at np.1 np.2.1 upd_same) .nil, by simp [PyData.showable, PyData.showableKv], by simp [PyData.leavesShort, PyData.leavesShortKv], by simp [PyData.weight, PyData.weightKv], by simp [PyData.depth, PyData.depthKv]⟩
/-- its type: a tuple of such, or something else -/
theorem Thg.ty (K : PySem.W.Frag) (h : Thg d g n m H x) : ∃ t, TyB1 K H x t ∧ ((isB t "tuple" = true ∧ ∃ a xs, x = .ref a ∧ H a = some (.tup xs) ∧ Ths d g n m H xs) ∨ isB t "tuple" = false) := by
  obtain ⟨dd, h1, h2⟩ := h
  have h1' := h1.same cut_same
  obtain ⟨t, ty, _, et⟩ := h1'.ty (K := K)
  refine ⟨t, ty, ?_⟩
  cases e : isTup dd with
  | false => exact .inr (et.trans e)
  | true =>
    obtain ⟨a, xs, ds, rfl, ha, hds, rfl⟩ := isTup_of h1 e
    exact .inl ⟨et.trans e, a, xs, rfl, cut_same _ _ ha, ds, hds, h2.of_tup⟩
theorem cat_ok {K : PySem.W.Frag} {a b : Addr} {Q : VK} (D : Dk d g c k H) (ha : H a = some (.tup xs)) (hb : H b = some (.tup ys)) (ta : Ths d g n m H xs) (tb : Ths d g n' m H ys) (hl : n + n' ≤ 100000)
    (q : ∀ (p : Addr) (zs : List V) (H' : Hp), Dk d g c k H' → Fr d g H H' → H' p = some (.tup zs) → Ths d g (n + n') m H' zs → Q (.ref p) H') : rCatA K (.ref a) (.ref b) H Q := by
  have l1 := ta.len
  have l2 := tb.len
  have e : sizeLine = 16777216 := by decide
  refine ⟨a, b, xs, ys, rfl, rfl, SqT.of ha, SqT.of hb, by omega, fun z => ?_, fun _ z => ?_, fun _ _ p hp => ?_⟩
  · exact q b ys H D (Fr.refl _ _ _) hb (tb.mono (by omega) (Nat.le_refl _))
  · exact q a xs H D (Fr.refl _ _ _) ha (ta.mono (by omega) (Nat.le_refl _))
  · exact q p _ _ (D.same (same_upd hp)) (.new hp) upd_same ((ta.append tb).fr (.new hp))
theorem sl_ok {K : PySem.W.Frag} {a : Addr} {lo hi : Option Int} {Q : VK} (D : Dk d g c k H) (ha : H a = some (.tup xs)) (ta : Ths d g n m H xs)
    (q : ∀ (p : Addr) (zs : List V) (H' : Hp), Dk d g c k H' → Fr d g H H' → H' p = some (.tup zs) → Ths d g n m H' zs → Q (.ref p) H') : rSlA K (.ref a) lo hi H Q :=
  ⟨a, xs, rfl, SqT.of ha, fun _ => q a xs H D (Fr.refl _ _ _) ha ta, fun _ p hp => q p _ _ (D.same (same_upd hp)) (.new hp) upd_same ((ta.cutV lo hi).fr (.new hp))⟩
end
/-! readings by the module's own objects, told outright (within comprehensions) -/
def rLen (K : PySem.W.Frag) : List V → Hp → VK → Prop := fun xs H Q => ∃ p ys, xs = [.ref p] ∧ (SqL K H p ys ∨ SqT K H p ys) ∧ Q (.int ys.length) H
def rTupOf (K : PySem.W.Frag) : List V → Hp → VK → Prop := fun xs H Q => ∃ p ys, xs = [.ref p] ∧ ((SqL K H p ys ∧ ∀ l, H l = none → Q (.ref l) (upd H l (.tup ys))) ∨ (SqT K H p ys ∧ Q (.ref p) H))
def rListOf (K : PySem.W.Frag) : List V → Hp → VK → Prop := fun xs H Q => ∃ p ys, xs = [.ref p] ∧ (SqL K H p ys ∨ SqT K H p ys) ∧ ∀ l, H l = none → Q (.ref l) (upd H l (.lst ys))
/-! ### rows: tuples of pairs -/
/-- all but tables stays; tables stay tables -/
structure Sm (H H' : Hp) : Prop where
  kp : ∀ a o, (∀ ps, o ≠ HO.tbl ps) → H a = some o → H' a = some o
  tb : ∀ P, GxR.TabG H P → GxR.TabG H' P
theorem Sm.refl (H : Hp) : Sm H H := ⟨fun _ _ _ e => e, fun _ e => e⟩
theorem Sm.trans {H H1 H2 : Hp} (a : Sm H H1) (b : Sm H1 H2) : Sm H H2 := ⟨fun x o n e => b.kp x o n (a.kp x o n e), fun P e => b.tb P (a.tb P e)⟩
theorem Sm.of_same {H H1 : Hp} (s : Same H H1) : Sm H H1 := ⟨fun x o _ e => s x o e, fun _ ⟨ps, e, t⟩ => ⟨ps, s _ _ e, t⟩⟩
theorem Sm.new {H : Hp} {p : Addr} {o : HO} (h : H p = none) : Sm H (upd H p o) := .of_same (same_upd h)
theorem Sm.tabbed {H H1 : Hp} {P : Addr} (g : GxR.TabG H P) (t : GxR.Tabbed P H H1) : Sm H H1 := by
  obtain ⟨t1, t2⟩ := t
  refine ⟨fun x o n e => ?_, fun R ⟨ps, e, tr⟩ => ?_⟩
  · by_cases h : x = P
    · obtain ⟨ps, e2, _⟩ := g
      rw [h, e2] at e
      cases e
      exact absurd rfl (n ps)
    · rw [t2 x h]
      exact e
  · by_cases h : R = P
    · rw [h]
      exact t1
    · exact ⟨ps, by rw [t2 R h]; exact e, tr⟩
theorem Sm.tup {H H1 : Hp} (s : Sm H H1) {a : Addr} {xs : List V} (e : H a = some (.tup xs)) : H1 a = some (.tup xs) := s.kp _ _ (fun _ z => by cases z) e
theorem Sm.lst {H H1 : Hp} (s : Sm H H1) {a : Addr} {xs : List V} (e : H a = some (.lst xs)) : H1 a = some (.lst xs) := s.kp _ _ (fun _ z => by cases z) e
/-- a list that is written while all else stays -/
theorem Sm.put {H H1 : Hp} {L : Addr} {o : HO} (s : Sm H H1) (h : H L = none) : Sm H (upd H1 L o) := by
  refine ⟨fun x u n e => ?_, fun R ⟨ps, e, t⟩ => ?_⟩
  · rw [upd_ne (ne_of_none e h)]
    exact s.kp _ _ n e
  · obtain ⟨qs, e2, t2⟩ := s.tb R ⟨ps, e, t⟩
    exact ⟨qs, by rw [upd_ne (ne_of_none e h)]; exact e2, t2⟩
abbrev Row := List (Int × Int)
def Pr (H : Hp) (x : V) (u : Int × Int) : Prop := ∃ a, x = .ref a ∧ H a = some (.tup [.int u.1, .int u.2])
structure Prs (H : Hp) (xs : List V) (r : Row) : Prop where
  len : xs.length = r.length
  get : ∀ {i : Nat} {x : V}, xs[i]? = some x → ∃ u, r[i]? = some u ∧ Pr H x u
def Rw (H : Hp) (t : Addr) (r : Row) : Prop := ∃ xs, H t = some (.tup xs) ∧ Prs H xs r
theorem Pr.sm {H H1 : Hp} {x : V} {u : Int × Int} (h : Pr H x u) (s : Sm H H1) : Pr H1 x u := let ⟨a, e, h⟩ := h; ⟨a, e, s.tup h⟩
theorem Prs.sm {H H1 : Hp} {xs : List V} {r : Row} (h : Prs H xs r) (s : Sm H H1) : Prs H1 xs r := ⟨h.len, fun e => let ⟨u, e2, p⟩ := h.get e; ⟨u, e2, p.sm s⟩⟩
theorem Rw.sm {H H1 : Hp} {t : Addr} {r : Row} (h : Rw H t r) (s : Sm H H1) : Rw H1 t r := let ⟨xs, e, p⟩ := h; ⟨xs, s.tup e, p.sm s⟩
theorem Prs.nil {H : Hp} : Prs H [] [] := ⟨rfl, fun {i x} e => by simp at e⟩
theorem Prs.snoc {H : Hp} {xs : List V} {r : Row} {x : V} {u : Int × Int} (h : Prs H xs r) (p : Pr H x u) : Prs H (xs ++ [x]) (r ++ [u]) := by
  refine ⟨by simp [h.len], fun {i y} e => ?_⟩
  by_cases hi : i < xs.length
  · rw [List.getElem?_append_left hi] at e
    rw [List.getElem?_append_left (by rw [← h.len]; exact hi)]
    exact h.get e
  · rw [List.getElem?_append_right (by omega)] at e
    rw [List.getElem?_append_right (by rw [← h.len]; omega), ← h.len]
    cases hk : i - xs.length with
    | zero =>
      rw [hk] at e
      cases e
      exact ⟨u, rfl, p⟩
    | succ m =>
      rw [hk] at e
      simp at e
theorem take_snoc {α : Type} {xs : List α} {i : Nat} {u : α} (e : xs[i]? = some u) : xs.take (i + 1) = xs.take i ++ [u] := by
  rw [List.take_add_one, e]
  rfl
/-! walks -/
section
variable {K : PySem.W.Frag} {a b : Addr} {xs ys : List V} {g : TG} {tt : TT} {te : TE} {vs : List Nat} {σ : L2.St} {Hs : Hp}
theorem gx_tup {Q : List V → Hp → Prop} (Pv : Nat → List V → Hp → Prop) (h0 : Pv 0 [] Hs) (hl : ∀ i zs H, i ≤ xs.length → Pv i zs H → SqT K H a xs)
    (hs : ∀ i x zs H, xs[i]? = some x → Pv i zs H → g x (wipe σ vs) H fun σ2 H2 => wipe σ2 vs = wipe σ vs ∧ te σ2 H2 fun y H3 => zs.length < sizeLine ∧ Pv (i + 1) (zs ++ [y]) H3) (hd : ∀ zs H, Pv xs.length zs H → Q zs H) :
    ∃ W : Nat → Nat → List V → Hp → Prop, (∃ m, W 0 m [] Hs) ∧ Gx.Turns (Itt K a) g te vs σ Q W := by
  refine ⟨fun i m zs H => m = xs.length - i ∧ i ≤ xs.length ∧ Pv i zs H, ⟨xs.length, by simp, Nat.zero_le _, h0⟩, ?_⟩
  rintro i m zs H ⟨rfl, hi, p⟩
  have q := hl i zs H hi p
  by_cases hlt : i < xs.length
  · refine .inr ⟨⟨xs, xs[i], q, by simp [hlt]⟩, Pv (i + 1), fun zs H' p' => ⟨xs.length - (i + 1), by omega, rfl, hlt, p'⟩, fun x H' y => ?_⟩
    obtain ⟨e, y⟩ := y
    subst e
    exact hs i x zs _ (y xs q) p
  · have e : i = xs.length := by omega
    subst e
    exact .inl ⟨⟨xs, q, Nat.le_refl _⟩, hd zs H p⟩
theorem gx_zip {Q : List V → Hp → Prop} (hle : xs.length = ys.length) (Pv : Nat → List V → Hp → Prop) (h0 : Pv 0 [] Hs) (hl : ∀ i zs H, Pv i zs H → SqT K H a xs ∧ SqT K H b ys)
    (hs : ∀ i x y T zs H, xs[i]? = some x → ys[i]? = some y → Pv i zs H → H T = none → g (.ref T) (wipe σ vs) (upd H T (.tup [x, y])) fun σ2 H2 => wipe σ2 vs = wipe σ vs ∧ te σ2 H2 fun y H3 => zs.length < sizeLine ∧ Pv (i + 1) (zs ++ [y]) H3) (hd : ∀ zs H, Pv xs.length zs H → Q zs H) :
    ∃ W : Nat → Nat → List V → Hp → Prop, (∃ m, W 0 m [] Hs) ∧ Gx.Turns (RZ.ItzT K a b) g te vs σ Q W := by
  refine ⟨fun i m zs H => m = xs.length - i ∧ i ≤ xs.length ∧ Pv i zs H, ⟨xs.length, by simp, Nat.zero_le _, h0⟩, ?_⟩
  rintro i m zs H ⟨rfl, hi, p⟩
  obtain ⟨qx, qy⟩ := hl i zs H p
  by_cases hlt : i < xs.length
  · have hx : xs[i]? = some xs[i] := List.getElem?_eq_getElem hlt
    have hlt2 : i < ys.length := by omega
    have hy : ys[i]? = some ys[i] := List.getElem?_eq_getElem hlt2
    refine .inr ⟨⟨xs, ys, _, _, qx, qy, hx, hy⟩, Pv (i + 1), fun zs H' p' => ⟨xs.length - (i + 1), by omega, rfl, hlt, p'⟩, fun v H' y => ?_⟩
    obtain ⟨T, x', y', rfl, hT, rfl, f1, f2⟩ := y
    exact hs i x' y' T zs H (f1 xs qx) (f2 ys qy) p hT
  · have e : i = xs.length := by omega
    subst e
    exact .inl ⟨⟨xs, ys, qx, qy, Or.inl (Nat.le_refl _)⟩, hd zs H p⟩
theorem lc_zip {D : Addr} {Qd : Hp → Prop} (hle : xs.length = ys.length) (Pv : Nat → Hp → Prop) (h0 : Pv 0 (upd Hs D (.lst []))) (hl : ∀ i H, Pv i H → SqT K H a xs ∧ SqT K H b ys)
    (hs : ∀ i x y T H, xs[i]? = some x → ys[i]? = some y → Pv i H → H T = none → g (.ref T) (wipe σ vs) (upd H T (.tup [x, y])) fun σ2 H2 => wipe σ2 vs = wipe σ vs ∧ tt σ2 H2 fun b H3 =>
      if b = true then te σ2 H3 fun y H4 => ∃ acc, H4 D = some (.lst acc) ∧ acc.length < sizeLine ∧ Pv (i + 1) (upd H4 D (.lst (acc ++ [y]))) else Pv (i + 1) H3) (hd : ∀ H, Pv xs.length H → Qd H) :
    ∃ W : Nat → Nat → Hp → Prop, (∃ m, W 0 m (upd Hs D (.lst []))) ∧ ∀ i m H, W i m H →
      ((RZ.ItzT K a b).stop i H ∧ Qd H) ∨ ((RZ.ItzT K a b).go i H ∧ ∃ Nx : Hp → Prop, (∀ H', Nx H' → ∃ m', m' < m ∧ W (i + 1) m' H') ∧ ∀ x H', (RZ.ItzT K a b).yld i H x H' → g x (wipe σ vs) H' fun σ2 H2 => wipe σ2 vs = wipe σ vs ∧ tt σ2 H2 fun b H3 =>
        if b = true then te σ2 H3 fun y H4 => ∃ acc, H4 D = some (.lst acc) ∧ acc.length < sizeLine ∧ Nx (upd H4 D (.lst (acc ++ [y]))) else Nx H3) := by
  refine ⟨fun i m H => m = xs.length - i ∧ i ≤ xs.length ∧ Pv i H, ⟨xs.length, by simp, Nat.zero_le _, h0⟩, ?_⟩
  rintro i m H ⟨rfl, hi, p⟩
  obtain ⟨qx, qy⟩ := hl i H p
  by_cases hlt : i < xs.length
  · have hx : xs[i]? = some xs[i] := List.getElem?_eq_getElem hlt
    have hlt2 : i < ys.length := by omega
    have hy : ys[i]? = some ys[i] := List.getElem?_eq_getElem hlt2
    refine .inr ⟨⟨xs, ys, _, _, qx, qy, hx, hy⟩, Pv (i + 1), fun H' p' => ⟨xs.length - (i + 1), by omega, rfl, hlt, p'⟩, fun v H' y => ?_⟩
    obtain ⟨T, x', y', rfl, hT, rfl, f1, f2⟩ := y
    exact hs i x' y' T H (f1 xs qx) (f2 ys qy) p hT
  · have e : i = xs.length := by omega
    subst e
    exact .inl ⟨⟨xs, ys, qx, qy, Or.inl (Nat.le_refl _)⟩, hd H p⟩
end
/-! a def whose code object is known -/
structure FunC (K : PySem.W.Frag) (x qual : Str) (st : Stmt) (f : Addr) (fd : FuncData) (c : Addr) : Prop where
  ex : ∃ (oc : Value) (od : Option Addr) (kV doc pm : Value) (an : Option Addr) (ct : Value) (osl : Array (Option Value)),
    fd = PySem.W.fnOf x qual (defArgs st) (defBody st) (defScope st) .none kV doc pm an (.ref c) ct ∧ K.lookup f = some ⟨oc, od, .func fd, osl⟩ ∧ PySem.W.codeIn K (.ref c) qual = true
open PySem.Spec PyProof.Rows in
theorem FunC.ok {P : Program} {w : World} {K : PySem.W.Frag} {mg : Str → Option Value} {base : Heap} {x qual : Str} {st : Stmt} {f c : Addr} {fd : FuncData} {N ps : List Str} {k : Nat} {sp : Sp} (F : FunC K x qual st f fd c) (S : FnScope N ps (defScope st)) (len : ∀ vs H Q E, sp vs H Q E → vs.length = ps.length)
    (hbody : ∀ (A : Around) (outer : List Env) (s : Shared) (H : Hp) (vs : List V) (Q : VK) (E : XK), Room k (A.deeper (envOfC qual (defScope st) s.heap.objs.size f (.ref c))) → sp vs H Q E →
      ∃ t, PSs (cxOf CX0 P w K mg base N qual (defScope st) f (.ref c) A outer s H E).nox (defBody st) t ∧ t { nx := fun _ H' => Q .non H', rt := Q } (start N vs) H) : FnOk P w K mg base CX0 (k + 1) f fd ps sp := by
  obtain ⟨oc, od, kV, doc, pm, an, ct, osl, rfl, lk, hcd⟩ := F.ex
  refine fn_of lk hcd S len fun A outer s H vs Q E hr hsp => ?_
  obtain ⟨t, h, q⟩ := hbody A outer s H vs Q E hr hsp
  exact ⟨t, h.nox, q⟩
/-! what is reckoned -/
def addR (p : Int) (r s : Row) : Row := List.zipWith (fun u v => ((u.1 + v.1) % p, (u.2 + v.2) % p)) r s
def timR (p n : Int) (r : Row) : Row := r.map fun u => (n * u.1 % p, n * u.2 % p)
def mets (r s : Row) : List Int := List.zipWith (fun u v => u.1 * v.2 - v.1 * u.2) r s
def metR (p : Int) (r s : Row) : Int := (mets r s).sum % p
def parR (r : Row) (js : List Nat) : Row := js.map fun j => r.getD j (0, 0)
def noR (n : Nat) : Row := List.replicate n (0, 0)
/-- a row of numbers that are no greater than we reckon with -/
def Fit (r : Row) : Prop := r.length ≤ 20 ∧ ∀ u ∈ r, (0 ≤ u.1 ∧ u.1 < 13) ∧ 0 ≤ u.2 ∧ u.2 < 13
theorem Fit.get {r : Row} (h : Fit r) {i : Nat} {u : Int × Int} (e : r[i]? = some u) : (0 ≤ u.1 ∧ u.1 < 13) ∧ 0 ≤ u.2 ∧ u.2 < 13 := h.2 u (List.mem_of_getElem? e)
theorem cmul {a b : Int} (h : 0 ≤ a ∧ a < 13) : CMul a b := .inl ⟨by omega, by omega⟩
theorem small {n : Nat} (h : n ≤ 1000) : n < sizeLine := small1000 h
-- CUT
section
variable {P : Program} {w : World} {K : PySem.W.Frag} {mg : Str → Option Value} {base : Heap} {A : Ad}
/-! ### the deck -/
def spDeck (K : PySem.W.Frag) : Sp := fun vs H Q _ => ∃ (a : Addr) (ns : List Int), vs = [.ref a] ∧ SqL K H a (ns.map V.int) ∧ ns.length ≤ 63 ∧
  ∀ (d g c : Addr) (H' : Hp), Same H H' → H d = none → H g = none → H c = none → Dk d g c 0 H' → Q (.ref d) H'
theorem ok__law_deck (T : Tx K mg A) : FnOk P w K mg base CX0 1 A.f__law_deck A.d__law_deck ["_law_script"] (spDeck K) := by
  refine T.d__law_deck.F.ok sc__law_deck (fun vs H Q E h => ?_) (fun cdv A outer s H vs Q E hr h => ?_)
  · obtain ⟨a, ns, rfl, _⟩ := h
    rfl
  · obtain ⟨a, ns, rfl, hS, hlen, k⟩ := h
    refine ⟨_, (pss_cons (ps_setLc (i := 1) (own := [("_law_cell", 2)]) rfl sc__law_deck.nd rfl rfl (sw_true rfl rfl rfl (by decide +kernel)) (pi_list (pv 0)) (blkOk_by (N := N__law_deck) (sc := defScope s__law_deck) (by decide +kernel)) (fun _ _ _ _ _ => (pg_name (i := 2) sc__law_deck.nd rfl (.inl rfl))) (fun _ _ _ _ _ => pts_nil) (fun _ _ _ _ _ => (pe_callB call_abs (by rfl) T.b_abs PyProof.Rows.boot_abs (pa_cons (pv 2) pa_nil))))
        (pss_one (ps_ret (pe_lst (pa_cons (pe_lc (own := [("_law_cell", 2)]) rfl sc__law_deck.nd (pi_list (pv 1)) (blkOk_by (N := N__law_deck) (sc := defScope s__law_deck) (by decide +kernel)) (fun _ _ _ _ _ => (pg_name (i := 2) sc__law_deck.nd rfl (.inl rfl))) (fun _ _ _ _ _ => (pts_one (pt_cmpR op_ge (pv 2) (pe_op op_pow pe_int pe_int) (nomark _)))) (fun _ _ _ _ _ => (pv 2))) (pa_cons (pe_op op_cat (pv 1) (pe_lst (pa_cons (pe_op op_add (pe_callB call_len_seq (by rfl) T.b_len PySem.boot_len (pa_cons (pv 1) pa_nil)) pe_int) pa_nil))) (pa_cons pe_int pa_nil))))))), ?_⟩
    -- cells = [abs(cell) for cell in script]
    refine ⟨.ref a, rfl, a, rfl, ⟨_, hS⟩, fun D hD => lc_list (xs := ns.map V.int) (fun i H' => Same H H' ∧ ∃ cs : List Int, cs.length = i ∧ H' D = some (.lst (cs.map V.int))) ⟨same_upd hD, [], rfl, upd_same⟩ (fun i H' _ h => h.1.seq hS) ?_ ?_⟩
    · rintro i x H' hi ⟨s1, cs, hc, hDs⟩
      obtain ⟨u, rfl⟩ := int_of_map hi
      have hi63 : i < ns.length := by
        have q := (List.getElem?_eq_some_iff.mp hi).1
        rw [List.length_map] at q
        exact q
      refine ⟨rfl, .int u, rfl, u, rfl, cs.map V.int, hDs, by rw [List.length_map]; exact small1000 (by omega), ?_⟩
      refine ⟨fun b o e => ?_, cs ++ [if u < 0 then -u else u], by rw [List.length_append, hc]; rfl, by rw [upd_same, List.map_append]; rfl⟩
      rw [upd_ne (ne_of_none e hD)]
      exact s1 _ _ e
    · rintro H1 ⟨s1, cs, hc, hDs⟩
      rw [List.length_map] at hc
      -- the great ones
      refine ⟨.ref D, rfl, D, rfl, ⟨_, .inl (.inl hDs)⟩, fun G hG => lc_list (xs := cs.map V.int) (fun i H' => Same H1 H' ∧ ∃ gs : List Int, gs.length ≤ i ∧ H' G = some (.lst (gs.map V.int))) ⟨same_upd hG, [], Nat.le_refl _, upd_same⟩ (fun i H' _ h => h.1.seq (.inl (.inl hDs))) ?_ ?_⟩
      · rintro i x H' hi ⟨s2, gs, hg, hGs⟩
        obtain ⟨u, rfl⟩ := int_of_map hi
        have hi63 : i < cs.length := by
          have q := (List.getElem?_eq_some_iff.mp hi).1
          rw [List.length_map] at q
          exact q
        refine ⟨rfl, .int u, rfl, _, _, rfl, rfl, ⟨by decide, by decide, by decide⟩, u, _, rfl, rfl, _, rfl, ite2 (fun _ => ?_) (fun _ => ?_)⟩
        · refine ⟨.int u, rfl, gs.map V.int, hGs, by rw [List.length_map]; exact small1000 (by omega), fun b o e => ?_, gs ++ [u], ?_, by rw [upd_same, List.map_append]; rfl⟩
          · rw [upd_ne (ne_of_none e hG)]
            exact s2 _ _ e
          · rw [List.length_append, List.length_singleton]
            omega
        · exact ⟨s2, gs, by omega, hGs⟩
      · rintro H2 ⟨s2, gs, hg, hGs⟩
        rw [List.length_map] at hg
        have hD2 : H2 D = some (.lst (cs.map V.int)) := s2 _ _ hDs
        -- cells + [len(cells) + 3]
        refine ⟨.ref D, rfl, .ref D, rfl, D, _, rfl, .inl (.inl (.inl hD2)), _, _, rfl, rfl, (by show 1 ≤ sizeLine; decide), fun p hp => ?_⟩
        have npD : D ≠ p := ne_of_none hD2 hp
        have npG : G ≠ p := ne_of_none hGs hp
        refine ⟨D, p, cs.map V.int, _, rfl, rfl, by rw [upd_ne npD]; exact hD2, upd_same, ?_, fun c hc' => ?_⟩
        · rw [List.length_map]
          exact Nat.le_of_lt (small1000 (by show cs.length + 1 ≤ 1000; omega))
        · have ncp : c ≠ p := fun e => by
            rw [e, upd_same] at hc'
            cases hc'
          have hc2 : H2 c = none := by
            rw [upd_ne ncp] at hc'
            exact hc'
          have ncG : G ≠ c := ne_of_none hGs hc2
          refine ⟨(by show 3 ≤ sizeLine; decide), fun d hd => ?_⟩
          have ndc : d ≠ c := fun e => by
            rw [e, upd_same] at hd
            cases hd
          rw [upd_ne ndc] at hd
          have ndp : d ≠ p := fun e => by
            rw [e, upd_same] at hd
            cases hd
          rw [upd_ne ndp] at hd
          have ndG : G ≠ d := ne_of_none hGs hd
          have s3 : Same H H2 := s1.trans s2
          refine k d G c _ (fun b o e => ?_) (s3.free hd) (s1.free hG) (s3.free hc2) ⟨⟨gs, cs ++ [((cs.length : Nat) : Int) + 3], 0, upd_same, ?_, ?_, ?_, ?_, by decide, by decide⟩, ndG.symm, ndc, ncG⟩
          · have e2 := s3 _ _ e
            rw [upd_ne (ne_of_none e2 hd), upd_ne (ne_of_none e2 hc2), upd_ne (ne_of_none e2 hp)]
            exact e2
          · rw [upd_ne ndG, upd_ne ncG, upd_ne npG]
            exact hGs
          · rw [upd_ne ndc.symm, upd_same, List.map_append, List.length_map]
            rfl
          · rw [List.length_append]
            show 0 < cs.length + 1
            omega
          · rw [List.length_append]
            show cs.length + 1 ≤ 100
            omega
def spNext : Sp := fun vs H Q _ => ∃ (d g c : Addr) (k m : Int), vs = [.ref d, .int m] ∧ 0 < m ∧ m < 1208925819614629174706176 ∧ Dk d g c k H ∧ k ≤ 1000000000 ∧
  ∀ (r : Int) (H' : Hp), 0 ≤ r → r < m → Dk d g c (k + 1) H' → Fr d g H H' → Q (.int r) H'
def lenAt (g : Addr) (H : Hp) : Nat := match H g with
  | some (.lst xs) => xs.length
  | _ => 0
theorem lenAt_of {g : Addr} {H : Hp} {xs : List V} (h : H g = some (.lst xs)) : lenAt g H = xs.length := by
  unfold lenAt
  rw [h]
theorem ok__law_next (T : Tx K mg A) : FnOk P w K mg base CX0 1 A.f__law_next A.d__law_next ["_law_deck_here", "_law_many"] spNext := by
  refine T.d__law_next.F.ok sc__law_next (fun vs H Q E h => ?_) (fun cdv A outer s H vs Q E hr h => ?_)
  · obtain ⟨d, g, c, k, m, rfl, _⟩ := h
    rfl
  · obtain ⟨d, g, c, k, m, rfl, hm, hm2, D0, hk, q⟩ := h
    have hW : m.natAbs < 2 ^ 80 := by
      show m.natAbs < 1208925819614629174706176
      omega
    refine ⟨_, (pss_cons (ps_while PassesOwn.never (pt_cmpR (op_neD hr.units) (pe_ix ix_list (pv 0) pe_int (fun _ _ => rfl)) (pe_lst pa_nil) (nomark _))
        (pss_cons (ps_set (i := 4) sc__law_next.nd rfl (.inl rfl) (pe_ix ix_list (pe_ix ix_list (pv 0) pe_int (fun _ _ => rfl)) pe_int (fun _ _ => rfl)))
        (pss_cons (ps_if (pt_cmpR op_gt (pv 4) pe_int (nomark _))
        (pss_cons (ps_asg (pe_op op_fdivW (pv 4) (pv 1)) (pg_sub (pe_ix ix_list (pv 0) pe_int (fun _ _ => rfl)) pe_int set_list))
        (pss_one (ps_ret (pe_op op_mod (pv 4) (pv 1)))))
        pss_nil)
        (pss_one (ps_expr (pe_bm PySem.F.plainAttrs_list PySem.F.slot_list_pop PySem.F.type_list_pop mt_popAt (pe_ix ix_list (pv 0) pe_int (fun _ _ => rfl)) (pa_cons pe_int pa_nil)))))))
        (pss_cons (ps_asg (pe_op op_add (pe_ix ix_list (pv 0) pe_int (fun _ _ => rfl)) pe_int) (pg_sub (pv 0) pe_int set_list))
        (pss_cons (ps_set (i := 2) sc__law_next.nd rfl (.inl rfl) (pe_op op_mod (pe_ix ix_list (pe_ix ix_list (pv 0) pe_int (fun _ _ => rfl)) (pe_op op_mod (pe_ix ix_list (pv 0) pe_int (fun _ _ => rfl)) (pe_callB call_len_seq (by rfl) T.b_len PySem.boot_len (pa_cons (pe_ix ix_list (pv 0) pe_int (fun _ _ => rfl)) pa_nil))) (fun _ _ => rfl)) pe_int))
        (pss_cons (ps_set (i := 3) sc__law_next.nd rfl (.inl rfl) (pe_op op_add (pe_op op_add (pe_op op_mul (pv 2) (pe_op op_add pe_int (pe_op op_mul pe_int (pe_ix ix_list (pv 0) pe_int (fun _ _ => rfl))))) (pe_op op_mul (pe_op op_mul pe_int (pe_ix ix_list (pv 0) pe_int (fun _ _ => rfl))) (pe_ix ix_list (pv 0) pe_int (fun _ _ => rfl)))) pe_int))
        (pss_cons (ps_set (i := 3) sc__law_next.nd rfl (.inl rfl) (pe_op op_mod (pv 3) pe_int))
        (pss_one (ps_ret (pe_op op_mod (pe_op op_fdivW (pe_op op_mod (pe_op op_mul (pv 3) (pv 3)) pe_int) pe_int) (pv 1))))))))), ?_⟩
    refine while_by (fun σ H' => ∃ v2 v3 v4, σ = [some (.ref d), some (.int m), v2, v3, v4] ∧ Dk d g c k H' ∧ Fr d g H H') (fun _ H' => lenAt g H') ⟨none, none, none, rfl, D0, Fr.refl _ _ _⟩ ?_ ?_
    · rintro σ H1 ⟨v2, v3, v4, rfl, D1, f1⟩
      obtain ⟨gs, cs, n, h1, h2, h3, h4, h5, h6, h7⟩ := D1.ex
      refine ⟨.ref d, rfl, d, _, 0, .ref g, rfl, rfl, SqL.of h1, atI_zero, Nat.zero_le _, fun p hp => ?_⟩
      obtain ⟨npd, npg, npc⟩ := D1.nd hp
      have k1 : upd H1 p (.lst []) d = some (.lst [.ref g, .ref c, .int n]) := by
        rw [upd_ne npd.symm]
        exact h1
      have k2 : upd H1 p (.lst []) g = some (.lst (gs.map V.int)) := by
        rw [upd_ne npg.symm]
        exact h2
      have k3 : upd H1 p (.lst []) c = some (.lst (cs.map V.int)) := by
        rw [upd_ne npc.symm]
        exact h3
      have f2 : Fr d g H (upd H1 p (.lst [])) := f1.trans (.new hp)
      have eL : lenAt g H1 = gs.length := by rw [lenAt_of h2, List.length_map]
      have k4 : upd H1 p (.lst []) p = some (.lst []) := upd_same
      generalize upd H1 p (.lst []) = H2 at k1 k2 k3 k4 f2 ⊢
      refine ⟨.list (gs.map PyData.int), .list ([].map PyData.int), .lst (SqL.of k2) (dp_ints gs), .lst (SqL.of k4) .nil, sh_ints gs, sh_ints [], _, rfl, ?_⟩
      cases gs with
      | cons x r =>
        -- rest = deck[0][0]
        refine ⟨.ref d, rfl, d, _, 0, _, rfl, rfl, SqL.of k1, atI_zero, g, _, 0, _, rfl, rfl, SqL.of k2, atI_zero, ?_⟩
        refine ⟨.int x, rfl, x, 0, rfl, rfl, _, rfl, ite2 (fun _ => ?_) (fun _ => ?_)⟩
        · -- deck[0][0] = rest // many; return rest % many
          refine ⟨.int x, rfl, .int m, rfl, x, m, rfl, rfl, wide_div hm hW (by decide) (by decide), .ref d, rfl, d, _, 0, _, rfl, rfl, SqL.of k1, atI_zero, g, _, 0, 0, rfl, rfl, k2, ixN_zero (by simp), ?_⟩
          refine ⟨.int x, rfl, .int m, rfl, x, m, rfl, rfl, hm, ?_⟩
          refine q _ _ (Int.emod_nonneg _ (by omega)) (Int.emod_lt_of_pos _ hm) ⟨⟨(x / m) :: r, cs, n, ?_, ?_, ?_, h4, h5, h6, by omega⟩, D1.dg, D1.dc, D1.gc⟩ (f2.trans .atg)
          · rw [upd_ne D1.dg]
            exact k1
          · rw [upd_same]
            rfl
          · rw [upd_ne D1.gc.symm]
            exact k3
        · -- deck[0].pop(0)
          refine ⟨.ref d, rfl, d, _, 0, _, rfl, rfl, SqL.of k1, atI_zero, .inl ⟨rfl, _, SqL.of k2⟩, g, _, 0, 0, .int x, rfl, rfl, k2, by decide, by decide, ixN_seq0 (by simp), rfl, ?_⟩
          refine ⟨⟨_, _, _, rfl, ⟨⟨r, cs, n, ?_, ?_, ?_, h4, h5, h6, h7⟩, D1.dg, D1.dc, D1.gc⟩, f2.trans .atg⟩, ?_⟩
          · rw [upd_ne D1.dg]
            exact k1
          · rw [upd_same]
            rfl
          · rw [upd_ne D1.gc.symm]
            exact k3
          · show lenAt g (upd H2 g _) < lenAt g H1
            rw [eL, lenAt_of upd_same]
            show (r.map V.int).length < r.length + 1
            rw [List.length_map]
            omega
      | nil =>
        -- deck[2] = deck[2] + 1
        refine ⟨.ref d, rfl, d, _, 2, _, rfl, rfl, SqL.of k1, atI_nat (j := 2) rfl, n, 1, rfl, rfl, .ref d, rfl, d, _, 2, 2, rfl, rfl, k1, rfl, ?_⟩
        have j1 : upd H2 d (.lst ([V.ref g, V.ref c, V.int n].set 2 (V.int (n + 1)))) d = some (.lst [.ref g, .ref c, .int (n + 1)]) := upd_same
        have j2 : upd H2 d (.lst ([V.ref g, V.ref c, V.int n].set 2 (V.int (n + 1)))) g = some (.lst []) := by
          rw [upd_ne D1.dg.symm]
          exact k2
        have j3 : upd H2 d (.lst ([V.ref g, V.ref c, V.int n].set 2 (V.int (n + 1)))) c = some (.lst (cs.map V.int)) := by
          rw [upd_ne D1.dc.symm]
          exact k3
        have f3 : Fr d g H (upd H2 d (.lst ([V.ref g, V.ref c, V.int n].set 2 (V.int (n + 1))))) := f2.trans .atd
        generalize upd H2 d (.lst ([V.ref g, V.ref c, V.int n].set 2 (V.int (n + 1)))) = H3 at j1 j2 j3 f3 ⊢
        have hl : (0 : Int) < (cs.map V.int).length := by
          rw [List.length_map]
          omega
        obtain ⟨v, hv⟩ := ints_at (cs := cs) (i := (n + 1) % ((cs.map V.int).length : Int)) (Int.emod_nonneg _ (by omega)) (by
          have z := Int.emod_lt_of_pos (n + 1) hl
          rw [List.length_map] at z ⊢
          exact z)
        -- the cell
        refine ⟨.ref d, rfl, d, _, 1, _, rfl, rfl, SqL.of j1, atI_nat (j := 1) rfl, .ref d, rfl, d, _, 2, _, rfl, rfl, SqL.of j1, atI_nat (j := 2) rfl, .ref d, rfl, d, _, 1, _, rfl, rfl, SqL.of j1, atI_nat (j := 1) rfl, c, _, rfl, .inl (SqL.of j3), n + 1, _, rfl, rfl, hl, c, _, _, .int v, rfl, rfl, SqL.of j3, hv, v, 2147483647, rfl, rfl, (by show (0 : Int) < 2147483647; decide), ?_⟩
        have q0 : 0 ≤ v % 2147483647 := Int.emod_nonneg _ (by decide)
        have q1 : v % 2147483647 < 2147483647 := Int.emod_lt_of_pos _ (by decide)
        refine ⟨.int (v % 2147483647), rfl, .ref d, rfl, d, _, 2, _, rfl, rfl, SqL.of j1, atI_nat (j := 2) rfl, 69621, n + 1, rfl, rfl, .inl ⟨by decide, by decide⟩, 48271, _, rfl, rfl, v % 2147483647, _, rfl, rfl, .inl ⟨by omega, by omega⟩,
          .ref d, rfl, d, _, 2, _, rfl, rfl, SqL.of j1, atI_nat (j := 2) rfl, 40692, n + 1, rfl, rfl, .inl ⟨by decide, by decide⟩, .ref d, rfl, d, _, 2, _, rfl, rfl, SqL.of j1, atI_nat (j := 2) rfl, _, n + 1, rfl, rfl, .inr ⟨by omega, by omega⟩, _, _, rfl, rfl, _, 11, rfl, rfl, ?_⟩
        refine ⟨_, rfl, _, 2147483629, rfl, rfl, (by show (0 : Int) < 2147483629; decide), ?_⟩
        refine ⟨_, rfl, _, rfl, _, _, rfl, rfl, .inl (mod_in (by decide) (by decide)), _, 2147483587, rfl, rfl, (by show (0 : Int) < 2147483587; decide), _, 16, rfl, rfl, wide_div (b := 5) (by decide) (by decide) (by decide) (by decide), .int m, rfl, _, m, rfl, rfl, hm, ?_⟩
        exact q _ _ (Int.emod_nonneg _ (by omega)) (Int.emod_lt_of_pos _ hm) ⟨⟨[], cs, n + 1, j1, j2, j3, h4, h5, by omega, by omega⟩, D1.dg, D1.dc, D1.gc⟩ f3
    · rintro σ H1 Q1 Q2 hq ⟨v, e, p, xs, i, v', e1, e2, hs, ha, hz, f⟩
      refine ⟨v, e, p, xs, i, v', e1, e2, hs, ha, hz, fun r hr => ?_⟩
      obtain ⟨d1, d2, a1, a2, a3, a4, kk, ek, qk⟩ := f r hr
      exact ⟨d1, d2, a1, a2, a3, a4, kk, ek, hq _ _ qk⟩
/-! ### what is drawn -/
def prs : List Int := [2, 3, 5, 7, 11, 13]
theorem prs_bd : ∀ p ∈ prs, 2 ≤ p ∧ p ≤ 13 := by decide
theorem ints_mem {cs : List Int} {i : Int} (h0 : 0 ≤ i) (h1 : i < cs.length) : ∃ v : Int, v ∈ cs ∧ atI (cs.map V.int) i = some (V.int v) := by
  obtain ⟨j, rfl⟩ := Int.eq_ofNat_of_zero_le h0
  have hj : j < cs.length := by omega
  refine ⟨cs[j], List.getElem_mem hj, ?_⟩
  apply atI_nat
  rw [List.getElem?_map, List.getElem?_eq_getElem hj]
  rfl
def spPrm : Sp := fun vs H Q _ => ∃ (d g c : Addr) (k : Int), vs = [.ref d] ∧ Dk d g c k H ∧ k ≤ 1000000 ∧
  ∀ (p : Int) (H' : Hp), p ∈ prs → Dk d g c (k + 1) H' → Fr d g H H' → Q (.int p) H'
theorem ok__law_prime (T : Tx K mg A) : FnOk P w K mg base CX0 2 A.f__law_prime A.d__law_prime ["_law_deck_here"] spPrm := by
  have G__law_next : FnOk P w K mg base CX0 1 A.f__law_next A.d__law_next ["_law_deck_here", "_law_many"] spNext := ok__law_next T
  refine T.d__law_prime.F.ok sc__law_prime (fun vs H Q E h => ?_) (fun cdv A outer s H vs Q E hr h => ?_)
  · obtain ⟨d, g, c, k, rfl, _⟩ := h
    rfl
  · obtain ⟨d, g, c, k, rfl, D0, hk, q⟩ := h
    refine ⟨_, (pss_one (ps_ret (pe_ix ix_tup (pe_tup (pa_cons pe_int (pa_cons pe_int (pa_cons pe_int (pa_cons pe_int (pa_cons pe_int (pa_cons pe_int pa_nil))))))) (pe_call G__law_next hr (by rfl) T.d__law_next.g T.d__law_next.F.kp T.d__law_next.b .nil pass0 (pa_cons (pv 0) (pa_cons pe_int pa_nil))) (fun _ _ => rfl)))), ?_⟩
    refine ⟨(by show 6 ≤ sizeLine; decide), fun t ht => ?_⟩
    have nt := D0.nd ht
    refine ⟨.ref d, rfl, d, g, c, k, 6, rfl, by decide, by decide, D0.same (same_upd ht), by omega, fun r H1 r0 r1 D1 f1 => ?_⟩
    obtain ⟨v, hv, ev⟩ := ints_mem (cs := prs) r0 r1
    exact ⟨t, _, r, .int v, rfl, rfl, SqT.of (f1 t _ nt.1 nt.2.1 upd_same), ev, q v H1 hv D1 ((Fr.new ht).trans f1)⟩
/-! ### rows that are drawn -/
def In (p : Int) (r : Row) : Prop := ∀ u ∈ r, (0 ≤ u.1 ∧ u.1 < p) ∧ 0 ≤ u.2 ∧ u.2 < p
theorem In.fit {p : Int} {r : Row} (h : In p r) (h2 : p ≤ 13) (h3 : r.length ≤ 20) : Fit r := ⟨h3, fun u hu => by have := h u hu; omega⟩
theorem Dk.nt {d g c a : Addr} {k : Int} {H : Hp} {xs : List V} (D : Dk d g c k H) (h : H a = some (.tup xs)) : a ≠ d ∧ a ≠ g := by
  obtain ⟨gs, cs, n, h1, h2, _⟩ := D.ex
  exact ⟨ne_of h h1 (by intro z; cases z), ne_of h h2 (by intro z; cases z)⟩
theorem Dk.ntb {d g c a : Addr} {k : Int} {H : Hp} (D : Dk d g c k H) (h : GxR.TabG H a) : a ≠ d ∧ a ≠ g := by
  obtain ⟨gs, cs, n, h1, h2, _⟩ := D.ex
  obtain ⟨ps, h, _⟩ := h
  exact ⟨ne_of h h1 (by intro z; cases z), ne_of h h2 (by intro z; cases z)⟩
theorem Dk.sm {d g c : Addr} {k : Int} {H H' : Hp} (D : Dk d g c k H) (s : Sm H H') : Dk d g c k H' := by
  obtain ⟨gs, cs, n, h1, h2, h3, h4, h5, h6, h7⟩ := D.ex
  exact ⟨⟨gs, cs, n, s.lst h1, s.lst h2, s.lst h3, h4, h5, h6, h7⟩, D.dg, D.dc, D.gc⟩
section
variable {d g c L : Addr} {k : Int} {H H' : Hp} {xs : List V} {r : Row} {t : Addr}
theorem Fr.tup (f : Fr d g H H') (D : Dk d g c k H) (h : H t = some (.tup xs)) : H' t = some (.tup xs) := f _ _ (D.nt h).1 (D.nt h).2 h
theorem Fr.tab (f : Fr d g H H') (D : Dk d g c k H) (h : GxR.TabG H t) : GxR.TabG H' t := let n := D.ntb h; let ⟨ps, e, z⟩ := h; ⟨ps, f _ _ n.1 n.2 e, z⟩
theorem Prs.fr (h : Prs H xs r) (D : Dk d g c k H) (f : Fr d g H H') : Prs H' xs r := ⟨h.len, fun e => let ⟨u, e2, a, ea, p⟩ := h.get e; ⟨u, e2, a, ea, f.tup D p⟩⟩
theorem Rw.fr (h : Rw H t r) (D : Dk d g c k H) (f : Fr d g H H') : Rw H' t r := let ⟨xs, e, p⟩ := h; ⟨xs, f.tup D e, p.fr D f⟩
theorem Prs.put {ys : List V} {o : HO} (h : Prs H xs r) (e : H L = some (.lst ys)) : Prs (upd H L o) xs r := ⟨h.len, fun e1 => let ⟨u, e2, a, ea, p⟩ := h.get e1; ⟨u, e2, a, ea, by rw [upd_ne (ne_of p e (by intro z; cases z))]; exact p⟩⟩
theorem Dk.put {o : HO} (D : Dk d g c k H) (h1 : L ≠ d) (h2 : L ≠ g) (h3 : L ≠ c) : Dk d g c k (upd H L o) := by
  obtain ⟨gs, cs, n, e1, e2, e3, h4, h5, h6, h7⟩ := D.ex
  exact ⟨⟨gs, cs, n, by rw [upd_ne h1.symm]; exact e1, by rw [upd_ne h2.symm]; exact e2, by rw [upd_ne h3.symm]; exact e3, h4, h5, h6, h7⟩, D.dg, D.dc, D.gc⟩
end
theorem two_ints {ns : List Int} (h : ns.length = (2 : Int).toNat) : ∃ x y, ns = [x, y] := by
  match ns, h with
  | [x, y], _ => exact ⟨x, y, rfl⟩
/-! rows of so many posts, tables -/
structure Rk (p : Int) (n : Nat) (H : Hp) (t : Addr) (r : Row) : Prop where
  rw : Rw H t r
  inp : In p r
  len : r.length = n
theorem Rk.sm {p : Int} {n : Nat} {H H' : Hp} {t : Addr} {r : Row} (h : Rk p n H t r) (s : Sm H H') : Rk p n H' t r := ⟨h.rw.sm s, h.inp, h.len⟩
theorem Rk.fit {p : Int} {n : Nat} {H : Hp} {t : Addr} {r : Row} (h : Rk p n H t r) (h2 : p ≤ 13) (h3 : n ≤ 20) : Fit r := h.inp.fit h2 (by rw [h.len]; exact h3)
theorem Rk.fr {p : Int} {n : Nat} {H H' : Hp} {t d g c : Addr} {k : Int} {r : Row} (h : Rk p n H t r) (D : Dk d g c k H) (f : Fr d g H H') : Rk p n H' t r := ⟨h.rw.fr D f, h.inp, h.len⟩
theorem Rk.put {p : Int} {n : Nat} {H : Hp} {t L : Addr} {r : Row} {ys : List V} {o : HO} (h : Rk p n H t r) (e : H L = some (.lst ys)) : Rk p n (upd H L o) t r := by
  obtain ⟨⟨xs, h1, h2⟩, h3, h4⟩ := h
  exact ⟨⟨xs, by rw [upd_ne (ne_of h1 e (by intro z; cases z))]; exact h1, h2.put e⟩, h3, h4⟩
/-! ### rows and lots, without the program's own -/
def Fl (H : Hp) (a : Addr) (us : List Int) : Prop := H a = some (.lst (us.map V.int))
open Lin (lessZ lessL clearL PL Rg Up vec scaled moreL)
open Lin (flatR flat_len flat_snoc)
def pw (p n : Int) : Nat → Int
  | 0 => 1
  | i + 1 => pw p n i * n % p
theorem pw_all : ∀ p ∈ ([2, 3, 5, 7, 11, 13] : List Int), ∀ i ∈ List.range 12, (i : Int) + 1 < p → 0 < pw p (1 + (i : Nat)) (p - 2).toNat ∧ pw p (1 + (i : Nat)) (p - 2).toNat < p ∧ pw p (1 + (i : Nat)) (p - 2).toNat * (1 + (i : Nat)) % p = 1 := by decide +kernel
theorem pw_inv {p n : Int} (hp : p ∈ ([2, 3, 5, 7, 11, 13] : List Int)) (h0 : 0 < n) (h1 : n < p) : 0 < pw p n (p - 2).toNat ∧ pw p n (p - 2).toNat < p ∧ pw p n (p - 2).toNat * n % p = 1 := by
  have p13 : p ≤ 13 := by
    have all : ∀ p ∈ ([2, 3, 5, 7, 11, 13] : List Int), p ≤ 13 := by decide
    exact all p hp
  obtain ⟨j, hj⟩ := Int.eq_ofNat_of_zero_le (show 0 ≤ n - 1 by omega)
  have e : n = 1 + (j : Nat) := by omega
  rw [e]
  exact pw_all p hp j (List.mem_range.mpr (by omega)) (by omega)
theorem perm_map {α β : Type} {g : α → β} {ys zs : List β} (h : ys.Perm zs) : ∀ {L : List α}, zs = L.map g → ∃ M : List α, M.Perm L ∧ ys = M.map g := by
  induction h with
  | nil =>
    intro L e
    cases L with
    | nil => exact ⟨[], .refl _, rfl⟩
    | cons _ _ => cases e
  | cons x _ ih =>
    intro L e
    cases L with
    | nil => cases e
    | cons y L =>
      obtain ⟨e1, e2⟩ := List.cons.inj e
      obtain ⟨M, m1, m2⟩ := ih e2
      exact ⟨y :: M, m1.cons y, by rw [e1, m2]; rfl⟩
  | swap x y l =>
    intro L e
    match L, e with
    | u :: v :: L, e =>
      obtain ⟨e1, e2⟩ := List.cons.inj e
      obtain ⟨e3, e4⟩ := List.cons.inj e2
      exact ⟨v :: u :: L, .swap u v L, by rw [e1, e3, e4]; rfl⟩
  | trans _ _ ih1 ih2 =>
    intro L e
    obtain ⟨M, m1, m2⟩ := ih2 e
    obtain ⟨N, n1, n2⟩ := ih1 m2
    exact ⟨N, n1.trans m1, n2⟩
theorem below_len : ∀ (n : Nat) (xs : List Nat), xs.Nodup → (∀ x ∈ xs, x < n) → xs.length ≤ n
  | 0, [], _, _ => Nat.le_refl _
  | 0, x :: _, _, h => absurd (h x (by simp)) (Nat.not_lt_zero _)
  | n + 1, xs, nd, h => by
    have k := below_len n (xs.erase n) (nd.erase n) fun x hx => by
      have m := (nd.mem_erase_iff).mp hx
      have := h x m.2
      omega
    by_cases hn : n ∈ xs
    · rw [List.length_erase_of_mem hn] at k
      omega
    · rw [List.erase_of_not_mem hn] at k
      omega
theorem pl_le {p : Int} {n : Nat} {fs : List (List Int)} {L : List (Nat × List Int)} (h : PL p n fs L) : L.length ≤ n := by
  have k := below_len n (L.map (·.1)) h.nd fun x hx => by
    obtain ⟨y, hy, rfl⟩ := List.mem_map.mp hx
    exact h.plc y hy
  simpa using k
structure Rws (p : Int) (n : Nat) (H : Hp) (xs : List V) (rs : List Row) : Prop where
  len : xs.length = rs.length
  get : ∀ {i : Nat} {x : V}, xs[i]? = some x → ∃ a r, x = .ref a ∧ rs[i]? = some r ∧ Rw H a r
  fit : ∀ r ∈ rs, In p r ∧ r.length = n
theorem Rws.sm {p : Int} {n : Nat} {H H' : Hp} {xs : List V} {rs : List Row} (h : Rws p n H xs rs) (s : Sm H H') : Rws p n H' xs rs := ⟨h.len, fun e => let ⟨a, r, h1, h2, h3⟩ := h.get e; ⟨a, r, h1, h2, h3.sm s⟩, h.fit⟩
theorem flat_rg {p : Int} {r : Row} (h : In p r) : Rg p (flatR r) := by
  intro u hu
  obtain ⟨v, hv, hm⟩ := List.mem_flatMap.mp hu
  have := h v hv
  have m : u = v.1 ∨ u = v.2 := by simpa using hm
  rcases m with e | e
  · rw [e]; exact this.1
  · rw [e]; exact this.2
theorem Sm.sq {H H' : Hp} {k : Zm.Kd} {a : Addr} {xs : List V} (s : Sm H H') (h : Zm.Sq k K H a xs) (t : H a = some (match k with | .l => .lst xs | .t => .tup xs)) : Zm.Sq k K H' a xs := by
  cases k with
  | l => exact SqL.of (s.lst t)
  | t => exact SqT.of (s.tup t)
/-- a list or a tuple in the heap -/
def At (k : Zm.Kd) (H : Hp) (a : Addr) (xs : List V) : Prop := match k with
  | .l => H a = some (.lst xs)
  | .t => H a = some (.tup xs)
theorem At.sm {k : Zm.Kd} {H H' : Hp} {a : Addr} {xs : List V} (h : At k H a xs) (s : Sm H H') : At k H' a xs := by
  cases k with
  | l => exact s.lst h
  | t => exact s.tup h
theorem At.sq {k : Zm.Kd} {H : Hp} {a : Addr} {xs : List V} (h : At k H a xs) : Zm.Sq k K H a xs := by
  cases k with
  | l => exact SqL.of h
  | t => exact SqT.of h
theorem rep_one {α : Type} (x : α) : ∀ k : Nat, (List.replicate k [x]).flatten = List.replicate k x
  | 0 => rfl
  | k + 1 => by
    rw [List.replicate_succ, List.flatten_cons, rep_one x k]
    rfl
theorem same_put {H H1 : Hp} {L : Addr} {o : HO} (s : Same H H1) (h : H L = none) : Same H (upd H1 L o) := fun b u e => by
  rw [upd_ne (ne_of_none e h)]
  exact s _ _ e
/-! ### rows told -/
def pairD (u : Int × Int) : PyData := .tuple [.int u.1, .int u.2]
def rowD (r : Row) : PyData := .tuple (r.map pairD)
theorem dq_prs {H : Hp} : ∀ {xs : List V} {r : Row}, Prs H xs r → DqAll H xs (r.map pairD)
  | [], [], _ => .nil
  | [], _ :: _, h => by have := h.len; simp at this
  | _ :: _, [], h => by have := h.len; simp at this
  | x :: xs, u :: r, h => by
    obtain ⟨v, e, a, rfl, ha⟩ := h.get (i := 0) (x := x) rfl
    cases e
    refine .cons (.tup ha (.cons (.int _) (.cons (.int _) .nil))) (dq_prs (xs := xs) (r := r) ⟨by have := h.len; simpa using this, fun {i y} e => h.get (i := i + 1) e⟩)
theorem dq_row {H : Hp} {t : Addr} {r : Row} (h : Rw H t r) : Dq H (.ref t) (rowD r) := let ⟨_, e, p⟩ := h; .tup e (dq_prs p)
theorem gd_num {i : Int} (h : 0 ≤ i ∧ i < 13) : Gd 5 0 (.int i) := Gd.int (k := 4) (by decide) (by decide) (by show i.natAbs < 16; omega)
theorem gd_pairs : ∀ {r : Row}, In 13 r → GdAll (13 * r.length) 1 (r.map pairD)
  | [], _ => .nil
  | u :: r, h => by
    have hu := h u (by simp)
    have g : Gd 12 1 (pairD u) := Gd.tup ((GdAll.cons (gd_num hu.1) (GdAll.cons (gd_num hu.2) (GdAll.nil (n := 0)))).mono (by decide) (by decide))
    have k := gd_pairs (r := r) fun v hv => h v (List.mem_cons_of_mem _ hv)
    exact (GdAll.cons g k).mono (by rw [List.length_cons]; omega) (by decide)
theorem gd_row {r : Row} (h : In 13 r) (hl : r.length ≤ 100) : Gd 1300 2 (rowD r) := (Gd.tup (gd_pairs h)).mono (by omega) (by decide)
theorem in13 {p : Int} {r : Row} (h : In p r) (hp : p ≤ 13) : In 13 r := fun u hu => by have := h u hu; omega
theorem md {p : Int} (h : 0 < p) (a : Int) : 0 ≤ a % p ∧ a % p < p := ⟨Int.emod_nonneg a (by omega), Int.emod_lt_of_pos a h⟩
/-! lists and tuples of rows told; rows compared -/
theorem gd_row20 {r : Row} (h : In 13 r) (hl : r.length ≤ 20) : Gd 300 2 (rowD r) := (Gd.tup (gd_pairs h)).mono (by omega) (by decide)
theorem gd_rows : ∀ {rs : List Row}, (∀ r ∈ rs, In 13 r ∧ r.length ≤ 20) → GdAll (301 * rs.length) 2 (rs.map rowD)
  | [], _ => .nil
  | r :: rs, h => by
    have hr := h r (by simp)
    have k := gd_rows (rs := rs) fun s hs => h s (List.mem_cons_of_mem _ hs)
    exact (GdAll.cons (gd_row20 hr.1 hr.2) k).mono (by rw [List.length_cons]; omega) (by decide)
theorem Rws.dq {p : Int} {n : Nat} {H : Hp} : ∀ {xs : List V} {rs : List Row}, Rws p n H xs rs → DqAll H xs (rs.map rowD)
  | [], [], _ => .nil
  | [], _ :: _, h => by have := h.len; simp at this
  | _ :: _, [], h => by have := h.len; simp at this
  | x :: xs, r :: rs, h => by
    obtain ⟨a, s, rfl, e, w⟩ := h.get (i := 0) (x := x) rfl
    cases e
    exact .cons (dq_row w) (Rws.dq (p := p) (n := n) (xs := xs) (rs := rs) ⟨by have := h.len; simpa using this, fun {i y} e => h.get (i := i + 1) e, fun s hs => h.fit s (List.mem_cons_of_mem _ hs)⟩)
def manyD (k : Zm.Kd) (ds : List PyData) : PyData := match k with
  | .l => .list ds
  | .t => .tuple ds
theorem dq_many {k : Zm.Kd} {p : Int} {n : Nat} {H : Hp} {a : Addr} {xs : List V} {rs : List Row} (e : At k H a xs) (h : Rws p n H xs rs) : Dq H (.ref a) (manyD k (rs.map rowD)) := match k, e with
  | .l, e => .lst e h.dq
  | .t, e => .tup e h.dq
theorem gd_many {k : Zm.Kd} {rs : List Row} (h : ∀ r ∈ rs, In 13 r ∧ r.length ≤ 20) (hl : rs.length ≤ 100) : Gd 40000 3 (manyD k (rs.map rowD)) := match k with
  | .l => (Gd.lst (gd_rows h)).mono (by omega) (by decide)
  | .t => (Gd.tup (gd_rows h)).mono (by omega) (by decide)
theorem dp_prs {H : Hp} : ∀ {xs : List V} {r : Row}, Prs H xs r → DpAll K H xs (r.map pairD)
  | [], [], _ => .nil
  | [], _ :: _, h => by have := h.len; simp at this
  | _ :: _, [], h => by have := h.len; simp at this
  | x :: xs, u :: r, h => by
    obtain ⟨v, e, a, rfl, ha⟩ := h.get (i := 0) (x := x) rfl
    cases e
    exact .cons (.tup (SqT.of ha) (.cons (.int _) (.cons (.int _) .nil))) (dp_prs (xs := xs) (r := r) ⟨by have := h.len; simpa using this, fun {i y} e => h.get (i := i + 1) e⟩)
theorem dp_row {H : Hp} {t : Addr} {r : Row} (h : Rw H t r) : Dp K H (.ref t) (rowD r) := let ⟨_, e, p⟩ := h; .tup (SqT.of e) (dp_prs p)
theorem lay_pairs : ∀ r : Row, PyData.canLayAll0 (r.map pairD) = true
  | [] => by simp [PyData.canLayAll0]
  | u :: r => by simp [PyData.canLayAll0, PyData.canLay0, pairD, lay_pairs r]
theorem dep_pairs : ∀ r : Row, PyData.depthAll (r.map pairD) ≤ 1
  | [] => by simp [PyData.depthAll]
  | u :: r => by
    have := dep_pairs r
    simp [PyData.depthAll, PyData.depth, pairD]
    omega
theorem sh_row (r : Row) : SeqAt.shaped (rowD r) = true := by
  have h1 := dep_pairs r
  have h2 : PyData.depth (rowD r) ≤ 64 := by
    unfold rowD
    simp only [PyData.depth]
    omega
  show (PyData.canLay0 (rowD r) && decide (PyData.depth (rowD r) ≤ 64)) = true
  rw [Bool.and_eq_true]
  exact ⟨by unfold rowD; simp only [PyData.canLay0]; exact lay_pairs r, decide_eq_true h2⟩
theorem eqv_pairs : ∀ r s : Row, PyData.eqvAll (r.map pairD) (s.map pairD) = decide (r = s)
  | [], [] => by simp [PyData.eqvAll]
  | [], _ :: _ => by simp [PyData.eqvAll]
  | _ :: _, [] => by simp [PyData.eqvAll]
  | u :: r, v :: s => by
    have ih := eqv_pairs r s
    have e : PyData.eqv (pairD u) (pairD v) = decide (u = v) := by
      obtain ⟨a, b⟩ := u
      obtain ⟨c, d⟩ := v
      rw [Bool.eq_iff_iff]
      simp [pairD, PyData.eqv, PyData.eqvAll]
    simp only [List.map_cons, PyData.eqvAll, e, ih]
    simp
theorem eqv_row (r s : Row) : PyData.eqv (rowD r) (rowD s) = decide (r = s) := by
  unfold rowD
  simp only [PyData.eqv]
  exact eqv_pairs r s
-- CUT
theorem vec_set {us : List Int} {o j : Nat} {x : Int} (h : o < us.length) : vec (us.set o x) j = if j = o then x else vec us j := by
  by_cases e : j = o
  · rw [if_pos e, e]
    exact Lin.vec_some (List.getElem?_set_self h)
  · rw [if_neg e]
    show (us.set o x).getD j 0 = us.getD j 0
    rw [List.getD_eq_getElem?_getD, List.getD_eq_getElem?_getD, List.getElem?_set_ne (fun z => e z.symm)]
theorem ixN_nat {n j : Nat} (h : j < n) : ixN n (j : Int) = some j := by
  unfold ixN
  rw [if_pos (by omega), if_pos (by omega)]
  rfl
/-! ### a hold and a table that are drawn -/
theorem mod2 {n : Int} (h0 : 0 ≤ n) (h1 : n < 2) : n = 0 ∨ n = 1 := by omega
def spHold : Sp := fun vs H Q _ => ∃ (d g c : Addr) (k : Int) (m : Nat), vs = [.ref d, .int m] ∧ Dk d g c k H ∧ k ≤ 900000 ∧ m ≤ 10 ∧
  ∀ (t : Addr) (hs : List Int) (H' : Hp), (∀ n ∈ hs, n = 0 ∨ n = 1) → hs.length = m → H' t = some (.tup (hs.map V.int)) → Dk d g c (k + m) H' → Fr d g H H' → Q (.ref t) H'
theorem ok__law_hold (T : Tx K mg A) : FnOk P w K mg base CX0 2 A.f__law_hold A.d__law_hold ["_law_deck_here", "_law_posts"] spHold := by
  have G__law_next : FnOk P w K mg base CX0 1 A.f__law_next A.d__law_next ["_law_deck_here", "_law_many"] spNext := ok__law_next T
  refine T.d__law_hold.F.ok sc__law_hold (fun vs H Q E h => ?_) (fun cdv A outer s H vs Q E hr h => ?_)
  · obtain ⟨d, g, c, k, m, rfl, _⟩ := h
    rfl
  · obtain ⟨d, g, c, k, m, rfl, D0, hk, hm, q⟩ := h
    refine ⟨_, (pss_one (ps_ret (pe_callTy call_tuple_of (by rfl) T.b_tuple PyProof.Rows.boot_tuple (pa_cons (pe_lc (own := [("_law_k", 2)]) rfl sc__law_hold.nd (pi_range1 (by rfl) T.b_range (pa_cons (pv 1) pa_nil)) (blkOk_by (N := N__law_hold) (sc := defScope s__law_hold) (by decide +kernel)) (fun _ _ _ _ _ => (pg_name (i := 2) sc__law_hold.nd rfl (.inl rfl))) (fun _ _ _ _ _ => pts_nil) (fun _ _ _ _ _ => (pe_call G__law_next hr (by rfl) T.d__law_next.g T.d__law_next.F.kp T.d__law_next.b .nil pass0 (pa_cons (pv 0) (pa_cons pe_int pa_nil))))) pa_nil)))), ?_⟩
    refine ⟨.int m, rfl, m, rfl, by omega, by omega, fun L hL => lc_range (fun i H' => Dk d g c (k + i) H' ∧ Fr d g H H' ∧ ∃ ns : List Int, (∀ n ∈ ns, n = 0 ∨ n = 1) ∧ ns.length = i ∧ H' L = some (.lst (ns.map V.int))) ⟨(D0.same (same_upd hL)).mono (by omega), .new hL, [], by simp, rfl, upd_same⟩ ?_ ?_⟩
    · rintro i H1 hi ⟨D1, f1, ns, hns, hlen, eL⟩
      rw [Int.toNat_natCast] at hi
      have nL := D0.nd hL
      refine ⟨rfl, .ref d, rfl, d, g, c, _, 2, rfl, by decide, by decide, D1, by omega, fun r H2 r0 r1 D2 f2 => ?_⟩
      have eL2 := f2 L _ nL.1 nL.2.1 eL
      refine ⟨_, eL2, by rw [List.length_map]; exact small (by omega), (D2.put nL.1 nL.2.1 nL.2.2).mono (by omega), fun b o e1 e2 e => ?_, ns ++ [r], ?_, by rw [List.length_append, hlen]; rfl, by rw [upd_same, List.map_append]; rfl⟩
      · rw [upd_ne (ne_of_none e hL)]
        exact f2 _ _ e1 e2 (f1 _ _ e1 e2 e)
      · intro n hn
        rcases List.mem_append.mp hn with hn | hn
        · exact hns n hn
        · rw [List.mem_singleton.mp hn]
          exact mod2 r0 r1
    · rintro H1 ⟨D1, f1, ns, hns, hlen, eL⟩
      rw [Int.toNat_natCast] at hlen D1
      exact ⟨L, _, rfl, .inl ⟨SqL.of eL, fun t ht => q t ns _ hns hlen upd_same (D1.same (same_upd ht)) (f1.trans (.new ht))⟩⟩
/-! ### tables -/
theorem get_snoc {α : Type} {xs : List α} {x y : α} {i : Nat} (e : (xs ++ [x])[i]? = some y) : (i < xs.length ∧ xs[i]? = some y) ∨ (i = xs.length ∧ y = x) := by
  by_cases h : i < xs.length
  · rw [List.getElem?_append_left h] at e
    exact .inl ⟨h, e⟩
  · rw [List.getElem?_append_right (by omega)] at e
    have : i - xs.length = 0 := by
      have := (List.getElem?_eq_some_iff.mp e).1
      simp at this
      exact this
    rw [this] at e
    cases e
    exact .inr ⟨by omega, rfl⟩
theorem snoc_at {α : Type} {xs : List α} {x : α} : (xs ++ [x])[xs.length]? = some x := by
  rw [List.getElem?_append_right (Nat.le_refl _), Nat.sub_self]
  rfl
structure Trs (H : Hp) (ys : List V) (rs : List (List Int)) : Prop where
  len : ys.length = rs.length
  get : ∀ {i : Nat} {y : V}, ys[i]? = some y → ∃ e r, y = .ref e ∧ rs[i]? = some r ∧ H e = some (.tup (r.map V.int))
theorem Trs.same {H H' : Hp} {ys : List V} {rs : List (List Int)} (h : Trs H ys rs) (s : Same H H') : Trs H' ys rs := ⟨h.len, fun e => let ⟨a, r, h1, h2, h3⟩ := h.get e; ⟨a, r, h1, h2, s _ _ h3⟩⟩
theorem nd_inj {as : List Addr} (h : as.Nodup) {i j : Nat} {a : Addr} (h1 : as[i]? = some a) (h2 : as[j]? = some a) : i = j := by
  obtain ⟨hi, e1⟩ := List.getElem?_eq_some_iff.mp h1
  obtain ⟨hj, e2⟩ := List.getElem?_eq_some_iff.mp h2
  have pw := List.pairwise_iff_getElem.mp h
  rcases Nat.lt_trichotomy i j with l | l | l
  · exact absurd (e1.trans e2.symm) (pw i j hi hj l)
  · exact l
  · exact absurd (e2.trans e1.symm) (pw j i hj hi l)
structure Grid (p : Int) (H0 : Hp) (d g c F : Addr) (m : Nat) (H : Hp) (as : List Addr) (rs : List (List Int)) : Prop where
  len : as.length = rs.length
  nd : as.Nodup
  get : ∀ {i : Nat} {a : Addr}, as[i]? = some a → ∃ r, rs[i]? = some r ∧ H a = some (.lst (r.map V.int))
  ok : ∀ r ∈ rs, r.length = m ∧ Rg p r
  ne : ∀ a ∈ as, a ≠ d ∧ a ≠ g ∧ a ≠ c ∧ a ≠ F ∧ H0 a = none
theorem Grid.fr {p : Int} {H0 H H' : Hp} {d g c F : Addr} {m : Nat} {as : List Addr} {rs : List (List Int)} (h : Grid p H0 d g c F m H as rs) (f : Fr d g H H') : Grid p H0 d g c F m H' as rs := ⟨h.len, h.nd, fun e => let ⟨r, h1, h2⟩ := h.get e; ⟨r, h1, f _ _ (h.ne _ (List.mem_of_getElem? e)).1 (h.ne _ (List.mem_of_getElem? e)).2.1 h2⟩, h.ok, h.ne⟩
theorem Grid.putF {p : Int} {H0 H : Hp} {d g c F : Addr} {m : Nat} {as : List Addr} {rs : List (List Int)} {o : HO} (h : Grid p H0 d g c F m H as rs) : Grid p H0 d g c F m (upd H F o) as rs := ⟨h.len, h.nd, fun e => let ⟨r, h1, h2⟩ := h.get e; ⟨r, h1, by rw [upd_ne (h.ne _ (List.mem_of_getElem? e)).2.2.2.1]; exact h2⟩, h.ok, h.ne⟩
theorem Grid.set {p : Int} {H0 H : Hp} {d g c F : Addr} {m : Nat} {as : List Addr} {rs : List (List Int)} (h : Grid p H0 d g c F m H as rs) {i j : Nat} {a : Addr} {r : List Int} {n : Int} (ea : as[i]? = some a) (er : rs[i]? = some r) (hn : 0 ≤ n ∧ n < p) : Grid p H0 d g c F m (upd H a (.lst ((r.map V.int).set j (.int n)))) as (rs.set i (r.set j n)) := by
  have hi : i < rs.length := (List.getElem?_eq_some_iff.mp er).1
  refine ⟨by rw [List.length_set, h.len], h.nd, fun {i' b} e => ?_, fun x hx => ?_, h.ne⟩
  · by_cases e2 : i' = i
    · subst e2
      rw [ea] at e
      cases e
      exact ⟨r.set j n, by rw [List.getElem?_set_self hi], by rw [upd_same, List.map_set]⟩
    · obtain ⟨r', h1, h2⟩ := h.get e
      have nb : b ≠ a := fun z => by
        rw [z] at e
        exact e2 (nd_inj h.nd e ea)
      refine ⟨r', by rw [List.getElem?_set_ne (fun z => e2 z.symm)]; exact h1, by rw [upd_ne nb]; exact h2⟩
  · rcases List.mem_or_eq_of_mem_set hx with m1 | m1
    · exact h.ok x m1
    · rw [m1]
      obtain ⟨l1, l2⟩ := h.ok r (List.mem_of_getElem? er)
      refine ⟨by rw [List.length_set]; exact l1, fun y hy => ?_⟩
      rcases List.mem_or_eq_of_mem_set hy with m2 | m2
      · exact l2 y m2
      · rw [m2]
        exact hn
def spTab : Sp := fun vs H Q _ => ∃ (d g c : Addr) (k p : Int) (m : Nat), vs = [.ref d, .int p, .int m] ∧ Dk d g c k H ∧ k ≤ 900000 ∧ 2 ≤ p ∧ p ≤ 13 ∧ m ≤ 10 ∧
  ∀ (t : Addr) (ys : List V) (rs : List (List Int)) (H' : Hp), H' t = some (.tup ys) → Trs H' ys rs → rs.length = m → (∀ r ∈ rs, r.length = m ∧ Rg p r) → Lin.Sy rs → Dk d g c (k + 220) H' → Fr d g H H' → Q (.ref t) H'
theorem col_set {rs : List (List Int)} {i j : Nat} {q : List Int} {n : Int} (er : rs[i]? = some q) (hj : j < q.length) (a b : Nat) : Lin.col (rs.set i (q.set j n)) b a = if a = i ∧ b = j then n else Lin.col rs b a := by
  have hi : i < rs.length := (List.getElem?_eq_some_iff.mp er).1
  unfold Lin.col
  rw [List.getD_eq_getElem?_getD, List.getD_eq_getElem?_getD]
  by_cases e : a = i
  · subst e
    rw [List.getElem?_set_self hi, er]
    show vec (q.set j n) b = if a = a ∧ b = j then n else vec q b
    rw [vec_set hj]
    by_cases z : b = j
    · rw [if_pos z, if_pos ⟨rfl, z⟩]
    · rw [if_neg z, if_neg (fun w => z w.2)]
  · rw [List.getElem?_set_ne (fun z => e z.symm), if_neg (fun w => e w.1)]
theorem sy_set {rs : List (List Int)} {i j : Nat} {q1 q2 : List Int} {n : Int} (h : Lin.Sy rs) (e1 : rs[i]? = some q1) (l1 : j < q1.length) (e2 : (rs.set i (q1.set j n))[j]? = some q2) (l2 : i < q2.length) : Lin.Sy ((rs.set i (q1.set j n)).set j (q2.set i n)) := fun a b => by
  rw [col_set e2 l2, col_set e1 l1, col_set e2 l2, col_set e1 l1, h a b]
  by_cases x : a = j ∧ b = i
  · rw [if_pos x]
    by_cases y : b = j ∧ a = i
    · rw [if_pos y]
    · rw [if_neg y, if_pos ⟨x.2, x.1⟩]
  · rw [if_neg x]
    by_cases y : b = j ∧ a = i
    · rw [if_pos y, if_pos ⟨y.2, y.1⟩]
    · rw [if_neg y, if_neg (fun z => y ⟨z.2, z.1⟩), if_neg (fun z => x ⟨z.2, z.1⟩)]
theorem sy_zero {i m : Nat} : Lin.Sy (List.replicate i (List.replicate m 0)) := fun a b => by
  have z : ∀ a b, Lin.col (List.replicate i (List.replicate m 0)) b a = 0 := fun a b => by
    unfold Lin.col
    rw [List.getD_eq_getElem?_getD, List.getElem?_replicate]
    split
    · show (List.replicate m (0 : Int)).getD b 0 = 0
      rw [List.getD_eq_getElem?_getD, List.getElem?_replicate]
      split <;> rfl
    · rfl
  rw [z, z]
set_option maxHeartbeats 2000000 in
theorem ok__law_table (T : Tx K mg A) : FnOk P w K mg base CX0 2 A.f__law_table A.d__law_table ["_law_deck_here", "_law_p", "_law_posts"] spTab := by
  have G__law_next : FnOk P w K mg base CX0 1 A.f__law_next A.d__law_next ["_law_deck_here", "_law_many"] spNext := ok__law_next T
  refine T.d__law_table.F.ok sc__law_table (fun vs H Q E h => ?_) (fun cdv A outer s H vs Q E hr h => ?_)
  · obtain ⟨d, g, c, k, p, m, rfl, _⟩ := h
    rfl
  · obtain ⟨d, g, c, k, p, m, rfl, D0, hk, p2, p13, hm, q⟩ := h
    refine ⟨_, (pss_cons (ps_setLc (i := 3) (own := [("_law_k", 4)]) rfl sc__law_table.nd rfl rfl (sw_true rfl rfl rfl (by decide +kernel)) (pi_range1 (by rfl) T.b_range (pa_cons (pv 2) pa_nil)) (blkOk_by (N := N__law_table) (sc := defScope s__law_table) (by decide +kernel)) (fun _ _ _ _ _ => (pg_name (i := 4) sc__law_table.nd rfl (.inl rfl))) (fun _ _ _ _ _ => pts_nil) (fun _ _ _ _ _ => (pe_op op_rep (pe_lst (pa_cons pe_int pa_nil)) (pv 2))))
        (pss_cons (ps_for PassesOwn.never rfl (pi_range1 (by rfl) T.b_range (pa_cons (pv 2) pa_nil)) (pg_name (i := 4) sc__law_table.nd rfl (.inl rfl))
        (pss_one (ps_for PassesOwn.never rfl (pi_range2 (by rfl) T.b_range (pa_cons (pv 4) (pa_cons (pv 2) pa_nil))) (pg_name (i := 5) sc__law_table.nd rfl (.inl rfl))
        (pss_cons (ps_set (i := 6) sc__law_table.nd rfl (.inl rfl) (pe_op op_mul (pe_call G__law_next hr (by rfl) T.d__law_next.g T.d__law_next.F.kp T.d__law_next.b .nil pass0 (pa_cons (pv 0) (pa_cons (pv 1) pa_nil))) (pe_callTy call_int1 (by rfl) T.b_int PyProof.Rows.boot_int (pa_cons (pe_cmpR op_gt (pe_call G__law_next hr (by rfl) T.d__law_next.g T.d__law_next.F.kp T.d__law_next.b .nil pass0 (pa_cons (pv 0) (pa_cons pe_int pa_nil))) pe_int (nomark _)) pa_nil))))
        (pss_cons (ps_asg (pv 6) (pg_sub (pe_ix ix_list (pv 3) (pv 4) (fun _ _ => rfl)) (pv 5) set_list))
        (pss_one (ps_asg (pv 6) (pg_sub (pe_ix ix_list (pv 3) (pv 5) (fun _ _ => rfl)) (pv 4) set_list))))))))
        (pss_one (ps_ret (pe_callTy call_tuple_of (by rfl) T.b_tuple PyProof.Rows.boot_tuple (pa_cons (pe_lc (own := [("_law_row", 7)]) rfl sc__law_table.nd (pi_list (pv 3)) (blkOk_by (N := N__law_table) (sc := defScope s__law_table) (by decide +kernel)) (fun _ _ _ _ _ => (pg_name (i := 7) sc__law_table.nd rfl (.inl rfl))) (fun _ _ _ _ _ => pts_nil) (fun _ _ _ _ _ => (pe_callTy (show CallR _ _ (rTupOf K) from call_tuple_of) (by rfl) T.b_tuple PyProof.Rows.boot_tuple (pa_cons (pv 7) pa_nil)))) pa_nil)))))), ?_⟩
    refine ⟨.int m, rfl, m, rfl, by omega, by omega, fun F hF => lc_range (fun i H' => Same H H' ∧ ∃ as, H' F = some (.lst (as.map V.ref)) ∧ as.length = i ∧ Grid p H d g c F m H' as (List.replicate i (List.replicate m 0))) ⟨same_upd hF, [], upd_same, rfl, ⟨rfl, List.nodup_nil, fun e => by simp at e, fun r hr => by simp at hr, fun a ha => by cases ha⟩⟩ ?_ ?_⟩
    · rintro i H1 hi ⟨s1, as, eF, al, gr⟩
      rw [Int.toNat_natCast] at hi
      have D1 := D0.same s1
      refine ⟨rfl, (by show 1 ≤ sizeLine; decide), fun a1 h1 => ⟨.int m, rfl, a1, _, _, rfl, rfl, upd_same, by omega, by omega, ?_, fun a2 h2 => ?_⟩⟩
      · exact Nat.le_of_lt (small (by show 1 * ((m : Nat) : Int).toNat ≤ 1000; omega))
      rw [rep_one, Int.toNat_natCast]
      have S2 : Same H1 (upd (upd H1 a1 (.lst [.int 0])) a2 (.lst (List.replicate m (V.int 0)))) := (same_upd h1).trans (same_upd h2)
      have n2 := (D1.same (same_upd (o := .lst [.int 0]) h1)).nd h2
      have h2' : H1 a2 = none := (same_upd h1).free h2
      have h2'' : H a2 = none := s1.free h2'
      have nF : F ≠ a2 := ne_of_none eF h2'
      have e2 : upd (upd H1 a1 (.lst [.int 0])) a2 (.lst (List.replicate m (V.int 0))) a2 = some (.lst (List.replicate m (V.int 0))) := upd_same
      have eF2 := S2 _ _ eF
      have gr2 := gr.fr (Fr.of_same S2)
      generalize upd (upd H1 a1 (.lst [.int 0])) a2 (.lst (List.replicate m (V.int 0))) = H2 at S2 e2 eF2 gr2 ⊢
      refine ⟨_, eF2, by rw [List.length_map]; exact small (by omega), same_put (s1.trans S2) hF, as ++ [a2], by rw [upd_same, List.map_append]; rfl, by rw [List.length_append, al]; rfl, ?_⟩
      refine ⟨by rw [List.length_append, al, List.length_replicate]; rfl, ?_, fun {j b} e => ?_, fun r hr' => ?_, fun b hb => ?_⟩
      · rw [List.nodup_append]
        refine ⟨gr.nd, by simp, fun x hx y hy => ?_⟩
        rw [List.mem_singleton.mp hy]
        intro z
        subst z
        obtain ⟨j, hj, ej⟩ := List.mem_iff_getElem.mp hx
        obtain ⟨r, _, h3⟩ := gr.get (List.getElem?_eq_getElem hj)
        rw [ej, h2'] at h3
        cases h3
      · rcases get_snoc e with ⟨hj, e⟩ | ⟨hj, rfl⟩
        · obtain ⟨r, h3, h4⟩ := gr2.putF (o := .lst (as.map V.ref ++ [V.ref a2])) |>.get e
          refine ⟨r, ?_, h4⟩
          rw [List.replicate_succ', List.getElem?_append_left (by rw [List.length_replicate]; omega)]
          exact h3
        · refine ⟨List.replicate m 0, ?_, by rw [upd_ne nF.symm, e2, List.map_replicate]⟩
          rw [hj, al, List.getElem?_replicate, if_pos (Nat.lt_succ_self i)]
      · rw [(List.mem_replicate.mp hr').2]
        exact ⟨List.length_replicate, fun n hn => by rw [(List.mem_replicate.mp hn).2]; omega⟩
      · rcases List.mem_append.mp hb with hb | hb
        · exact gr.ne b hb
        · rw [List.mem_singleton.mp hb]
          exact ⟨n2.1, n2.2.1, n2.2.2, nF.symm, h2''⟩
    · rintro H1 ⟨s1, as, eF, al, gr⟩
      rw [Int.toNat_natCast] at al gr
      have nF := D0.nd hF
      have D1 := D0.same s1
      refine ⟨.int m, rfl, m, rfl, by omega, by omega, for_range (fun i σ H' => ∃ v4 v5 v6 v7 rs, σ = [some (.ref d), some (.int p), some (.int m), some (.ref F), v4, v5, v6, v7] ∧ Dk d g c (k + 20 * i) H' ∧ Fr d g H H' ∧ H' F = some (.lst (as.map V.ref)) ∧ Grid p H d g c F m H' as rs ∧ Lin.Sy rs) ⟨_, _, _, _, _, rfl, D1.mono (by omega), .of_same s1, eF, gr, sy_zero⟩ ?_ ?_⟩
      · rintro i σ H2 hi ⟨v4, v5, v6, v7, rs, rfl, D2, f2, eF2, gr2, sy2⟩
        rw [Int.toNat_natCast] at hi
        have e0 : (0 + (i : Nat) : Int) = (i : Nat) := by omega
        rw [e0]
        refine ⟨.int (i : Nat), rfl, .int m, rfl, (i : Nat), m, rfl, ⟨by omega, by omega, by omega, by omega⟩, for_range (fun j σ H' => ∃ v5 v6 rs, σ = [some (.ref d), some (.int p), some (.int m), some (.ref F), some (.int (i : Nat)), v5, v6, v7] ∧ Dk d g c (k + 20 * i + 2 * j) H' ∧ Fr d g H H' ∧ H' F = some (.lst (as.map V.ref)) ∧ Grid p H d g c F m H' as rs ∧ Lin.Sy rs) ⟨_, _, _, rfl, D2.mono (by omega), f2, eF2, gr2, sy2⟩ ?_ ?_⟩
        · rintro j σ H3 hj ⟨v5, v6, rs, rfl, D3, f3, eF3, gr3, sy3⟩
          have hj' : i + j < m := by omega
          have e1 : ((i : Nat) + (j : Nat) : Int) = ((i + j : Nat) : Int) := by omega
          rw [e1]
          refine ⟨.ref d, rfl, .int p, rfl, d, g, c, _, p, rfl, by omega, by omega, D3, by omega, fun r H4 r0 r1 D4 f4 => ?_⟩
          refine ⟨.ref d, rfl, d, g, c, _, 3, rfl, by decide, by decide, D4, by omega, fun r2 H5 _ _ D5 f5 => ?_⟩
          have f35 := f4.trans f5
          have eF5 := f35 F _ nF.1 nF.2.1 eF3
          have gr5 := gr3.fr f35
          refine ⟨r2, 0, rfl, rfl, .inr ⟨_, rfl, r, _, rfl, rfl, .inl ⟨by omega, by omega⟩, ?_⟩⟩
          have hz : 0 ≤ r * (if decide (0 < r2) = true then 1 else 0) ∧ r * (if decide (0 < r2) = true then 1 else 0) < p := by
            cases decide (0 < r2) with
            | true => simp; omega
            | false => simp; omega
          dsimp only
          generalize r * (if decide (0 < r2) = true then 1 else 0) = n at hz ⊢
          have rl5 := gr5.len
          -- found[k][j]
          have ea1 : as[i]? = some as[i] := List.getElem?_eq_getElem (by omega)
          have ea2 : as[i + j]? = some as[i + j] := List.getElem?_eq_getElem (by omega)
          obtain ⟨q1, eq1, hq1⟩ := gr5.get ea1
          have ql1 := (gr5.ok q1 (List.mem_of_getElem? eq1)).1
          refine ⟨.int n, rfl, .ref F, rfl, .int (i : Nat), rfl, F, _, (i : Nat), .ref as[i], rfl, rfl, SqL.of eF5, atI_nat (by rw [List.getElem?_map, ea1]; rfl), .int ((i + j : Nat)), rfl, as[i], _, ((i + j : Nat) : Int), i + j, rfl, rfl, hq1, ixN_nat (by rw [List.length_map]; omega), ?_⟩
          have gr6 := gr5.set (j := i + j) ea1 eq1 hz
          have ne1 := gr5.ne _ (List.mem_of_getElem? ea1)
          have D6 := D5.put (o := .lst ((q1.map V.int).set (i + j) (.int n))) ne1.1 ne1.2.1 ne1.2.2.1
          have eF6 : upd H5 as[i] (.lst ((q1.map V.int).set (i + j) (.int n))) F = some (.lst (as.map V.ref)) := by
            rw [upd_ne ne1.2.2.2.1.symm]
            exact eF5
          have f6 : Fr d g H (upd H5 as[i] (.lst ((q1.map V.int).set (i + j) (.int n)))) := fun b o e1 e2 e => by
            rw [upd_ne (ne_of_none e ne1.2.2.2.2)]
            exact f35 _ _ e1 e2 (f3 _ _ e1 e2 e)
          generalize upd H5 as[i] (.lst ((q1.map V.int).set (i + j) (.int n))) = H6 at gr6 D6 eF6 f6 ⊢
          -- found[j][k]
          obtain ⟨q2, eq2, hq2⟩ := gr6.get ea2
          have ql2 := (gr6.ok q2 (List.mem_of_getElem? eq2)).1
          refine ⟨.int n, rfl, .ref F, rfl, .int ((i + j : Nat)), rfl, F, _, ((i + j : Nat) : Int), .ref as[i + j], rfl, rfl, SqL.of eF6, atI_nat (by rw [List.getElem?_map, ea2]; rfl), .int (i : Nat), rfl, as[i + j], _, (i : Nat), i, rfl, rfl, hq2, ixN_nat (by rw [List.length_map]; omega), ?_⟩
          have gr7 := gr6.set (j := i) ea2 eq2 hz
          have ne2 := gr6.ne _ (List.mem_of_getElem? ea2)
          have D7 := D6.put (o := .lst ((q2.map V.int).set i (.int n))) ne2.1 ne2.2.1 ne2.2.2.1
          refine ⟨_, _, _, rfl, D7.mono (by omega), fun b o e1 e2 e => ?_, ?_, gr7, sy_set sy3 eq1 (by omega) eq2 (by omega)⟩
          · rw [upd_ne (ne_of_none e ne2.2.2.2.2)]
            exact f6 _ _ e1 e2 e
          · rw [upd_ne ne2.2.2.2.1.symm]
            exact eF6
        · rintro σ H3 ⟨v5, v6, rs, rfl, D3, f3, eF3, gr3, sy3⟩
          exact ⟨_, _, _, _, _, rfl, D3.mono (by omega), f3, eF3, gr3, sy3⟩
      · rintro σ H2 ⟨v4, v5, v6, v7, rs, rfl, D2, f2, eF2, gr2, sy2⟩
        rw [Int.toNat_natCast] at D2
        have rl2 := gr2.len
        refine ⟨.ref F, rfl, F, rfl, ⟨_, SqL.of eF2⟩, fun D hD => lc_it (walk_list (xs := as.map V.ref)) (fun i H' => Same H2 H' ∧ ∃ ys, H' D = some (.lst ys) ∧ Trs H' ys (rs.take i)) ⟨same_upd hD, [], upd_same, rfl, fun e => by simp at e⟩ (fun i H' _ h => SqL.of (h.1 _ _ eF2)) ?_ ?_⟩
        · rintro i x H3 H4 hi ⟨s3, ys, eD, tr⟩ ⟨rfl, hx⟩
          rw [List.getElem?_map] at hx
          obtain ⟨a, ea, rfl⟩ := Option.map_eq_some_iff.mp hx
          obtain ⟨r, er, hr2⟩ := gr2.get ea
          have yl := tr.len
          rw [List.length_take] at yl
          have hi' : i < rs.length := (List.getElem?_eq_some_iff.mp er).1
          refine ⟨rfl, .ref a, rfl, a, _, rfl, .inl ⟨SqL.of (s3 _ _ hr2), fun t ht => ?_⟩⟩
          have nD : D ≠ t := ne_of_none eD ht
          have eD2 : upd H4 t (.tup (r.map V.int)) D = some (.lst ys) := by
            rw [upd_ne nD]
            exact eD
          refine ⟨ys, eD2, small (by omega), same_put (s3.trans (same_upd ht)) hD, ys ++ [.ref t], upd_same, ?_, fun {j y} e => ?_⟩
          · rw [List.length_append, List.length_take]
            show ys.length + 1 = _
            omega
          · rw [take_snoc er]
            rcases get_snoc e with ⟨hj, e⟩ | ⟨hj, rfl⟩
            · obtain ⟨b, r', h1, h2, h3⟩ := tr.get e
              refine ⟨b, r', h1, ?_, ?_⟩
              · rw [List.getElem?_append_left (by rw [List.length_take]; omega)]
                exact h2
              · rw [upd_ne (ne_of (same_upd (o := .tup (r.map V.int)) ht _ _ h3) eD2 (by intro z; cases z))]
                exact same_upd ht _ _ h3
            · refine ⟨t, r, rfl, ?_, by rw [upd_ne nD.symm]; exact upd_same⟩
              have e3 : (rs.take i).length = j := by rw [List.length_take]; omega
              rw [← e3]
              exact snoc_at
        · rintro H3 ⟨s3, ys, eD, tr⟩
          rw [List.length_map, List.take_of_length_le (by omega)] at tr
          refine ⟨D, _, rfl, .inl ⟨SqL.of eD, fun t ht => ?_⟩⟩
          exact q t ys rs _ upd_same (tr.same (same_upd ht)) (by omega) gr2.ok sy2 (((D2.same s3).same (same_upd ht)).mono (by omega)) ((f2.trans (.of_same s3)).trans (.new ht))
/-! ### the program -/
def spWhole : Sp := fun vs H Q _ => ∃ (x : V) (d : PyData), vs = [x] ∧ Dq H x d ∧ Q (.bl (isInt d)) H
theorem ok_is_whole (T : Tx K mg A) : FnOk P w K mg base CX0 1 A.f_is_whole A.d_is_whole ["thing"] spWhole := by
  refine T.d_is_whole.F.ok sc_is_whole (fun vs H Q E h => ?_) (fun cdv A outer s H vs Q E hr h => ?_)
  · obtain ⟨x, t, rfl, _⟩ := h
    rfl
  · obtain ⟨x, o, rfl, th, q⟩ := h
    obtain ⟨t, ⟨ty, ht⟩, e, _⟩ := th.ty (K := K)
    rw [← e] at q
    refine ⟨_, (pss_one (ps_ret (pe_and (pe_callB call_isi (by rfl) T.b_isinstance PyProof.Rows.boot_isinstance (pa_cons (pv 0) (pa_cons (pe_bltn (v := .ty "int") (by rfl) T.b_int PyProof.Rows.boot_int rfl) pa_nil))) (pe_one (pe_not (pe_callB call_isi (by rfl) T.b_isinstance PyProof.Rows.boot_isinstance (pa_cons (pv 0) (pa_cons (pe_bltn (v := .ty "bool") (by rfl) T.b_bool PyProof.Rows.boot_bool rfl) pa_nil)))))))), ?_⟩
    refine ⟨x, rfl, x, _, _, _, _, rfl, .ty "int", ty, isi_of "int" ht (.inl rfl), _, rfl, ite2 (fun e => ?_) (fun e => ?_)⟩
    · refine ⟨x, rfl, x, _, _, _, _, rfl, .ty "bool", ty, isi_of "bool" ht (.inr (.inl rfl)), _, rfl, ?_⟩
      rw [e] at q
      exact q
    · have e2 : isB t "int" = false := Bool.eq_false_iff.mpr e
      rw [e2] at q
      exact q
def spNum : Sp := fun vs H Q _ => ∃ (p : Int) (x : V) (d : PyData), vs = [.int p, x] ∧ Dq H x d ∧ Q (.bl (isNumD p d)) H
theorem ok_is_round (T : Tx K mg A) : FnOk P w K mg base CX0 2 A.f_is_round A.d_is_round ["p", "thing"] spNum := by
  have G_is_whole : FnOk P w K mg base CX0 1 A.f_is_whole A.d_is_whole ["thing"] spWhole := ok_is_whole T
  refine T.d_is_round.F.ok sc_is_round (fun vs H Q E h => ?_) (fun cdv A outer s H vs Q E hr h => ?_)
  · obtain ⟨p, x, t, rfl, _⟩ := h
    rfl
  · obtain ⟨p, x, d, rfl, th, q⟩ := h
    refine ⟨_, (pss_one (ps_ret (pe_and (pe_call G_is_whole hr (by rfl) T.d_is_whole.g T.d_is_whole.F.kp T.d_is_whole.b .nil pass0 (pa_cons (pv 1) pa_nil)) (pe_one (pe_chain op_le op_lt pe_int (pv 1) (pv 0)))))), ?_⟩
    refine ⟨x, rfl, x, d, rfl, th, _, rfl, ite2 (fun e => ?_) (fun e => ?_)⟩
    · obtain ⟨i, rfl, rfl⟩ := isInt_of th e
      refine ⟨.int i, rfl, 0, i, rfl, rfl, _, rfl, ite2 (fun e => ?_) (fun e => ?_)⟩
      · refine ⟨.int p, rfl, i, p, rfl, rfl, ?_⟩
        have q' : Q (.bl (decide (0 ≤ i) && decide (i < p))) H := q
        rw [e] at q'
        exact q'
      · have q' : Q (.bl (decide (0 ≤ i) && decide (i < p))) H := q
        rw [Bool.eq_false_iff.mpr e] at q'
        exact q'
    · rw [num_false (Bool.eq_false_iff.mpr e)] at q
      exact q
def spPair : Sp := fun vs H Q _ => ∃ (p : Int) (x : V) (d : PyData), vs = [.int p, x] ∧ Dq H x d ∧ Q (.bl (isPairD p d)) H
def spRow : Sp := fun vs H Q _ => ∃ (p n : Int) (x : V) (d : PyData), vs = [.int p, .int n, x] ∧ Dq H x d ∧ (∀ ds, d = .tuple ds → ds.length ≤ 1000000) ∧ ∀ H', Same H H' → Q (.bl (isRowD p n d)) H'
-- CUT
/-! ### papers of being in, as things -/
def areNumD (p n : Int) : PyData → Bool
  | .tuple ds => decide ((ds.length : Int) = n) && ds.all (isNumD p)
  | _ => false
def intOf : PyData → Int
  | .int i => i
  | _ => 0
def pairOf : PyData → Int × Int
  | .tuple [x, y] => (intOf x, intOf y)
  | _ => (0, 0)
def itemsOf : PyData → List PyData
  | .tuple ds => ds
  | _ => []
def numsOf (d : PyData) : List Int := (itemsOf d).map intOf
def rowOf (d : PyData) : Row := (itemsOf d).map pairOf
theorem areNum_false {p n : Int} {d : PyData} (e : isTup d = false) : areNumD p n d = false := by
  cases d <;> first | rfl | cases e
theorem num_of {p : Int} {d : PyData} (e : isNumD p d = true) : d = .int (intOf d) ∧ 0 ≤ intOf d ∧ intOf d < p := by
  cases d <;> first
    | cases e
    | (simp only [isNumD, Bool.and_eq_true, decide_eq_true_eq] at e
       exact ⟨rfl, e.1, e.2⟩)
theorem pair_of {p : Int} {d : PyData} (e : isPairD p d = true) : d = pairD (pairOf d) ∧ (0 ≤ (pairOf d).1 ∧ (pairOf d).1 < p) ∧ 0 ≤ (pairOf d).2 ∧ (pairOf d).2 < p := by
  match d, e with
  | .tuple [x, y], e =>
    have e' : (isNumD p x && isNumD p y) = true := e
    rw [Bool.and_eq_true] at e'
    obtain ⟨hx, x0, x1⟩ := num_of e'.1
    obtain ⟨hy, y0, y1⟩ := num_of e'.2
    refine ⟨?_, ⟨x0, x1⟩, y0, y1⟩
    show PyData.tuple [x, y] = .tuple [.int (intOf x), .int (intOf y)]
    rw [← hx, ← hy]
theorem Dq.pair {H : Hp} {x : V} {u : Int × Int} (h : Dq H x (pairD u)) : Pr H x u := by
  obtain ⟨a, b⟩ := u
  cases h with
  | tup e k =>
    cases k with
    | cons h1 k1 =>
      cases k1 with
      | cons h2 k2 =>
        cases k2
        cases h1
        cases h2
        exact ⟨_, rfl, e⟩
theorem Dq.row {p : Int} {m : Nat} {H : Hp} {x : V} {d : PyData} (h : Dq H x d) (e : isRowD p m d = true) : ∃ a, x = .ref a ∧ Rk p m H a (rowOf d) := by
  cases h <;> first
    | (simp only [isRowD] at e; exact absurd e (by decide))
    | skip
  rename_i a xs ds ha k
  simp only [isRowD, Bool.and_eq_true, decide_eq_true_eq] at e
  obtain ⟨e1, e2⟩ := e
  rw [List.all_eq_true] at e2
  refine ⟨a, rfl, ⟨xs, ha, ?_, fun {i y} hy => ?_⟩, fun u hu => ?_, ?_⟩
  · rw [k.length]
    exact (List.length_map ..).symm
  · obtain ⟨dy, ey, qy⟩ := k.get hy
    have pp := pair_of (e2 dy (List.mem_of_getElem? ey))
    rw [pp.1] at qy
    refine ⟨pairOf dy, ?_, qy.pair⟩
    show (ds.map pairOf)[i]? = _
    rw [List.getElem?_map, ey]
    rfl
  · obtain ⟨dy, hd, rfl⟩ := List.mem_map.mp (show u ∈ ds.map pairOf from hu)
    exact (pair_of (e2 dy hd)).2
  · show (ds.map pairOf).length = m
    rw [List.length_map]
    omega
theorem dq_ints {p : Int} {H : Hp} : ∀ {xs : List V} {ds : List PyData}, DqAll H xs ds → (∀ d ∈ ds, isNumD p d = true) → xs = (ds.map intOf).map V.int
  | _, [], h, _ => by
    cases h
    rfl
  | _, d :: ds, h, e => by
    cases h with
    | cons h1 h2 =>
      obtain ⟨hd, _⟩ := num_of (e d (by simp))
      rw [hd] at h1
      cases h1
      rw [dq_ints h2 fun d hd => e d (List.mem_cons_of_mem _ hd)]
      rfl
theorem Dq.nums {p n : Int} {H : Hp} {x : V} {d : PyData} (h : Dq H x d) (e : areNumD p n d = true) : ∃ a, x = .ref a ∧ H a = some (.tup ((numsOf d).map V.int)) ∧ (∀ i ∈ numsOf d, 0 ≤ i ∧ i < p) ∧ ((numsOf d).length : Int) = n := by
  cases h <;> first
    | (simp only [areNumD] at e; exact absurd e (by decide))
    | skip
  rename_i a xs ds ha k
  simp only [areNumD, Bool.and_eq_true, decide_eq_true_eq] at e
  obtain ⟨e1, e2⟩ := e
  rw [List.all_eq_true] at e2
  have ex := dq_ints k e2
  refine ⟨a, rfl, by rw [ha, ex]; rfl, fun i hi => ?_, ?_⟩
  · obtain ⟨dy, hd, rfl⟩ := List.mem_map.mp (show i ∈ ds.map intOf from hi)
    exact (num_of (e2 dy hd)).2
  · show ((ds.map intOf).length : Int) = n
    rw [List.length_map]
    exact e1
def barB (p : Int) (rs : List Row) (r u : Row) : Bool := rs.all (fun s => decide (metR p s u = 0)) && !decide (metR p r u = 0)
def isBarD (p : Int) (m : Nat) (rs : List Row) (r : Row) (d : PyData) : Bool := isRowD p m d && barB p rs r (rowOf d)
def isSumD (p : Int) (m : Nat) (rs : List Row) (r : Row) (d : PyData) : Bool := areNumD p rs.length d && decide (Lin.sumP p (noR m) ((numsOf d).zip rs) = r)
def wordB (w : PyData) (x : Str) : Bool := PyData.eqv w (.str x)
/-- what a paper tells: by its word and what is shown -/
def rightW (p : Int) (m : Nat) (rs : List Row) (r : Row) (w s : PyData) : Bool := if wordB w "sum" then isSumD p m rs r s else wordB w "bar" && isBarD p m rs r s
def rightD (p : Int) (m : Nat) (rs : List Row) (r : Row) : PyData → Bool
  | .tuple [w, s] => rightW p m rs r w s
  | _ => false
/-- the word is a text, or None -/
def isWd : PyData → Prop
  | .str x => PyData.strOk x = true
  | .none => True
  | _ => False
def Wd : PyData → Prop
  | .tuple [w, _] => isWd w
  | _ => True
theorem right_no {p : Int} {m : Nat} {rs : List Row} {r : Row} {d : PyData} (e : isTup d = false) : rightD p m rs r d = false := by
  cases d <;> first | rfl | cases e
theorem right_len {p : Int} {m : Nat} {rs : List Row} {r : Row} {ds : List PyData} (e : ¬ ((ds.length : Int) = 2)) : rightD p m rs r (.tuple ds) = false := by
  match ds, e with
  | [], _ => rfl
  | [_], _ => rfl
  | [_, _], e => exact absurd rfl e
  | _ :: _ :: _ :: _, _ => rfl
theorem At.len2 {k : Zm.Kd} {H : Hp} {a : Addr} {xs : List V} (h : At k H a xs) : SqL K H a xs ∨ SqT K H a xs := match k, h with
  | .l, h => .inl (SqL.of h)
  | .t, h => .inr (SqT.of h)
theorem sh_str {x : Str} (h : PyData.strOk x = true) : SeqAt.shaped (.str x) = true := by
  show (PyData.canLay0 (.str x) && decide (PyData.depth (.str x) ≤ 64)) = true
  simp [PyData.canLay0, PyData.depth, h]
theorem sh_sum : SeqAt.shaped (.str ("sum" : Str)) = true := sh_str (by decide +kernel)
theorem sh_bar : SeqAt.shaped (.str ("bar" : Str)) = true := sh_str (by decide +kernel)
theorem sh_non : SeqAt.shaped .none = true := by
  show (PyData.canLay0 .none && decide (PyData.depth .none ≤ 64)) = true
  simp [PyData.canLay0, PyData.depth]
theorem Dq.wd {H : Hp} {x : V} {w : PyData} (h : Dq H x w) (e : isWd w) : Dp K H x w ∧ SeqAt.shaped w = true := by
  cases h <;> first | exact ⟨.non, sh_non⟩ | exact ⟨.str _, sh_str e⟩ | cases e
theorem int_eq {a b : Int} : decide (V.int a = V.int b) = decide (a = b) := by
  by_cases h : a = b
  · rw [h, decide_eq_true rfl, decide_eq_true rfl]
  · rw [decide_eq_false h, decide_eq_false fun z => h (V.int.inj z)]
/-! ### the program's judge -/
def Few (d : PyData) : Prop := ∀ ds, d = .tuple ds → ds.length ≤ 1000000
def spAreN : Sp := fun vs H Q _ => ∃ (p n : Int) (x : V) (d : PyData), vs = [.int p, .int n, x] ∧ Dq H x d ∧ Few d ∧ ∀ H', Same H H' → Q (.bl (areNumD p n d)) H'
theorem ok_are_numbers (T : Tx K mg A) : FnOk P w K mg base CX0 3 A.f_are_numbers A.d_are_numbers ["p", "many", "thing"] spAreN := by
  have G_is_round : FnOk P w K mg base CX0 2 A.f_is_round A.d_is_round ["p", "thing"] spNum := ok_is_round T
  refine T.d_are_numbers.F.ok sc_are_numbers (fun vs H Q E h => ?_) (fun cdv A outer s H vs Q E hr h => ?_)
  · obtain ⟨p, n, x, t, rfl, _⟩ := h
    rfl
  · obtain ⟨p, n, x, d, rfl, th, hl, q⟩ := h
    obtain ⟨t, ⟨ty, ht⟩, _, et⟩ := th.ty (K := K)
    refine ⟨_, (pss_one (ps_ret (pe_and (pe_callB call_isi (by rfl) T.b_isinstance PyProof.Rows.boot_isinstance (pa_cons (pv 2) (pa_cons (pe_bltn (v := .ty "tuple") (by rfl) T.b_tuple PyProof.Rows.boot_tuple rfl) pa_nil))) (pe_and (pe_cmpR op_eq (pe_callB call_len_seq (by rfl) T.b_len PySem.boot_len (pa_cons (pv 2) pa_nil)) (pv 1) (nomark _)) (pe_one (pe_callB (cr_all rfl) (by rfl) T.b_all PyProof.Rows.boot_all (pa_cons (pe_lc (own := [("number", 3)]) rfl sc_are_numbers.nd (pi_tup (pv 2)) (blkOk_by (N := N_are_numbers) (sc := defScope s_are_numbers) (by decide +kernel)) (fun _ _ _ _ _ => (pg_name (i := 3) sc_are_numbers.nd rfl (.inl rfl))) (fun _ _ _ _ _ => pts_nil) (fun _ _ _ _ _ => (pe_call G_is_round hr (by rfl) T.d_is_round.g T.d_is_round.F.kp T.d_is_round.b .nil pass0 (pa_cons (pv 0) (pa_cons (pv 3) pa_nil))))) pa_nil))))))), ?_⟩
    refine ⟨x, rfl, x, _, _, _, _, rfl, .ty "tuple", ty, isi_of "tuple" ht (by simp), _, rfl, ite2 (fun e => ?_) (fun e => ?_)⟩
    · rw [et] at e
      obtain ⟨a, xs, ds, rfl, ha, hds, rfl⟩ := isTup_of th e
      have hl' := hl ds rfl
      have hxl := hds.length
      refine ⟨.ref a, rfl, a, xs, rfl, .inr (SqT.of ha), .int n, rfl, rfl, _, rfl, ite2 (fun e => ?_) (fun e => ?_)⟩
      · have e2 : (ds.length : Int) = n := by
          rw [← hds.length]
          exact V.int.inj (of_decide_eq_true e)
        refine ⟨.ref a, rfl, a, rfl, ⟨_, SqT.of ha⟩, fun D hD => lc_tup (xs := xs) (fun i H' => Same H H' ∧ H' D = some (.lst (((ds.take i).map (isNumD p)).map V.bl))) ⟨same_upd hD, upd_same⟩ (fun i H' _ h => .inl (.inl (h.1 _ _ ha))) ?_ ?_⟩
        · rintro i y H' hi ⟨s1, hDs⟩
          obtain ⟨dy, ey, hy⟩ := hds.get hi
          refine ⟨rfl, .int p, rfl, y, rfl, p, y, dy, rfl, hy.same s1, _, hDs, ?_, fun b o e => ?_, ?_⟩
          · rw [List.length_map, List.length_map, List.length_take]
            have e : sizeLine = 16777216 := by decide
            omega
          · rw [upd_ne (ne_of_none e hD)]
            exact s1 _ _ e
          · rw [upd_same, List.take_add_one, ey, List.map_append, List.map_append]
            rfl
        · rintro H' ⟨s1, hDs⟩
          refine ⟨D, _, rfl, SqL.of hDs, ?_⟩
          have e3 : ((ds.take xs.length).map (isNumD p)).all id = ds.all (isNumD p) := by
            rw [hxl, List.take_length, List.all_map]
            rfl
          have e4 : areNumD p n (.tuple ds) = ds.all (isNumD p) := by
            show (decide ((ds.length : Int) = n) && ds.all (isNumD p)) = _
            rw [decide_eq_true e2]
            rfl
          have q' := q H' s1
          rw [e4, ← e3] at q'
          exact q'
      · have e2 : ¬ ((ds.length : Int) = n) := fun z => e (decide_eq_true (by rw [hds.length, z]))
        have e4 : areNumD p n (.tuple ds) = false := by
          show (decide ((ds.length : Int) = n) && ds.all (isNumD p)) = _
          rw [decide_eq_false e2]
          rfl
        have q' := q H (Same.refl _)
        rw [e4] at q'
        exact q'
    · rw [et] at e
      have q' := q H (Same.refl _)
      rw [areNum_false (Bool.eq_false_iff.mpr e)] at q'
      exact q'
theorem add_lenR {p : Int} {m : Nat} {r s : Row} (h1 : r.length = m) (h2 : s.length = m) : (addR p r s).length = m := by
  unfold addR
  rw [List.length_zipWith]
  omega
theorem Dq.sm {H H' : Hp} {v : V} {d : PyData} (h : Dq H v d) (s : Sm H H') : Dq H' v d := Dq.mono (fun a o e => ⟨fun xs z => s.kp _ _ (by rw [z]; intro ps q; cases q) e, fun xs z => s.kp _ _ (by rw [z]; intro ps q; cases q) e, fun _ z => s.kp _ _ (by rw [z]; intro ps q; cases q) e⟩) d v h
/-! ### papers of letting, whatever they are -/
def rEqS : R2 := fun x y H Q => ∃ (d : PyData) (z : Str), Dq H x d ∧ y = .str z ∧ Q (.bl (wordB d z)) H
open PySem.Spec PyProof.Rows PySem.SeqAt in
/-- anything compared with a text -/
theorem op_eqS {X : Cx} (hu : X.A.units < cLine) : OpR X (compareOp .Eq) rEqS := by
  intro pins s σ H x y v u Q I rx ry h
  obtain ⟨d, z, hd, rfl, q⟩ := h
  obtain ⟨t, rfl⟩ := ry
  have fin : Q (.bl (wordB d z)) H → ∀ b, wordB d z = b → Q (.bl b) H := fun q b e => e ▸ q
  cases hd with
  | non =>
    obtain rfl : v = Value.none := rx
    exact RcAt.none_str z t _ _ _ _ ⟨.bl false, H, I, rfl, fin q _ (by simp [wordB, PyData.eqv])⟩
  | bl b =>
    obtain rfl : v = Value.bool b := rx
    exact RcAt.bool_str b z t _ _ _ _ ⟨.bl false, H, I, rfl, fin q _ (by simp [wordB, PyData.eqv])⟩
  | int i =>
    obtain ⟨t2, rfl⟩ := rx
    exact RcAt.int_str i t2 z t _ _ _ _ ⟨.bl false, H, I, rfl, fin q _ (by simp [wordB, PyData.eqv])⟩
  | str w =>
    obtain ⟨t2, rfl⟩ := rx
    exact RcAt.str_str w t2 z t _ _ _ _ ⟨.bl (w == z), H, I, rfl, fin q _ (by simp [wordB, PyData.eqv])⟩
  | @lst a xs ds e k =>
    obtain rfl : v = Value.ref a := rx
    obtain ⟨its, rv, il, _⟩ := I.list (SqL.of e)
    exact RcAt.list_str z t il.isList hu _ _ _ _ ⟨.bl false, H, I, rfl, fin q _ (by simp [wordB, PyData.eqv])⟩
  | @tup a xs ds e k =>
    obtain rfl : v = Value.ref a := rx
    obtain ⟨its, rv, il, _⟩ := I.tuple (SqT.of e)
    exact RcAt.tuple_str z t (show s.heap.IsTuple a its.toArray from il) hu _ _ _ _ ⟨.bl false, H, I, rfl, fin q _ (by simp [wordB, PyData.eqv])⟩
  | @dic a kvs ds e k =>
    obtain rfl : v = Value.ref a := rx
    obtain ⟨_, _, vs, kv, ⟨oc, od, odt, osl⟩, es, ep, h1, h2, h3, _⟩ := I.hok _ _ e
    obtain rfl : oc = .type "dict" := h2.1
    obtain rfl : odt = .dict es ep := h3
    exact Ds.dict_str z t h1 hu _ _ _ _ ⟨.bl false, H, I, rfl, fin q _ (by simp [wordB, PyData.eqv])⟩
/-! ### anything that is not a text -/
def rNeS : R2 := fun x y H Q => ∃ (d : PyData) (z : Str), Dq H x d ∧ y = .str z ∧ Q (.bl (!wordB d z)) H
open PySem.Spec PyProof.Rows PySem.SeqAt in
theorem op_neS {X : Cx} (hu : X.A.units < cLine) : OpR X (compareOp .NotEq) rNeS := by
  intro pins s σ H x y v u Q I rx ry h
  obtain ⟨d, z, hd, rfl, q⟩ := h
  obtain ⟨t, rfl⟩ := ry
  have fin : Q (.bl (!wordB d z)) H → ∀ b, (!wordB d z) = b → Q (.bl b) H := fun q b e => e ▸ q
  cases hd with
  | non =>
    obtain rfl : v = Value.none := rx
    exact RcNeAt.none_str z t _ _ _ _ ⟨.bl true, H, I, rfl, fin q _ (by simp [wordB, PyData.eqv])⟩
  | bl b =>
    obtain rfl : v = Value.bool b := rx
    exact RcNeAt.bool_str b z t _ _ _ _ ⟨.bl true, H, I, rfl, fin q _ (by simp [wordB, PyData.eqv])⟩
  | int i =>
    obtain ⟨t2, rfl⟩ := rx
    exact RcNeAt.int_str i t2 z t _ _ _ _ ⟨.bl true, H, I, rfl, fin q _ (by simp [wordB, PyData.eqv])⟩
  | str w =>
    obtain ⟨t2, rfl⟩ := rx
    exact RcNeAt.str_str w t2 z t _ _ _ _ ⟨.bl (!(w == z)), H, I, rfl, fin q _ (by simp [wordB, PyData.eqv])⟩
  | @lst a xs ds e k =>
    obtain rfl : v = Value.ref a := rx
    obtain ⟨its, rv, il, _⟩ := I.list (SqL.of e)
    exact RcNeAt.list_str z t il.isList hu _ _ _ _ ⟨.bl true, H, I, rfl, fin q _ (by simp [wordB, PyData.eqv])⟩
  | @tup a xs ds e k =>
    obtain rfl : v = Value.ref a := rx
    obtain ⟨its, rv, il, _⟩ := I.tuple (SqT.of e)
    exact RcNeAt.tuple_str z t (show s.heap.IsTuple a its.toArray from il) hu _ _ _ _ ⟨.bl true, H, I, rfl, fin q _ (by simp [wordB, PyData.eqv])⟩
  | @dic a kvs ds e k =>
    obtain rfl : v = Value.ref a := rx
    obtain ⟨_, _, vs, kv, ⟨oc, od, odt, osl⟩, es, ep, h1, h2, h3, _⟩ := I.hok _ _ e
    obtain rfl : oc = .type "dict" := h2.1
    obtain rfl : odt = .dict es ep := h3
    exact Ds.dict_strN z t h1 hu _ _ _ _ ⟨.bl true, H, I, rfl, fin q _ (by simp [wordB, PyData.eqv])⟩
-- CUT
/-! ### squares of numbers, whatever they are -/
def Few2 (d : PyData) : Prop := Few d ∧ ∀ ds, d = .tuple ds → ∀ e ∈ ds, Few e
def isSqD (p n : Int) : PyData → Bool
  | .tuple ds => decide ((ds.length : Int) = n) && ds.all (areNumD p n)
  | _ => false
theorem isSq_false {p n : Int} {d : PyData} (h : isTup d = false) : isSqD p n d = false := by
  cases d <;> first | rfl | cases h
theorem Few2.in_ {ds : List PyData} (h : Few2 (.tuple ds)) {e : PyData} (he : e ∈ ds) : Few e := h.2 ds rfl e he
def gridOf : PyData → List (List Int)
  | .tuple ds => ds.map numsOf
  | _ => []
def spSquare : Sp := fun vs H Q _ => ∃ (p n : Int) (x : V) (d : PyData), vs = [.int p, .int n, x] ∧ Dq H x d ∧ Few2 d ∧ ∀ H', Same H H' → Q (.bl (isSqD p n d)) H'
theorem ok_is_square (T : Tx K mg A) : FnOk P w K mg base CX0 4 A.f_is_square A.d_is_square ["p", "many", "thing"] spSquare := by
  have G_are_numbers : FnOk P w K mg base CX0 3 A.f_are_numbers A.d_are_numbers ["p", "many", "thing"] spAreN := ok_are_numbers T
  refine T.d_is_square.F.ok sc_is_square (fun vs H Q E h => ?_) (fun cdv A outer s H vs Q E hr h => ?_)
  · obtain ⟨p, n, x, t, rfl, _⟩ := h
    rfl
  · obtain ⟨p, n, x, d, rfl, th, hl, q⟩ := h
    obtain ⟨t, ⟨ty, ht⟩, _, et⟩ := th.ty (K := K)
    refine ⟨_, (pss_one (ps_ret (pe_and (pe_callB call_isi (by rfl) T.b_isinstance PyProof.Rows.boot_isinstance (pa_cons (pv 2) (pa_cons (pe_bltn (v := .ty "tuple") (by rfl) T.b_tuple PyProof.Rows.boot_tuple rfl) pa_nil))) (pe_and (pe_cmpR op_eq (pe_callB call_len_seq (by rfl) T.b_len PySem.boot_len (pa_cons (pv 2) pa_nil)) (pv 1) (nomark _)) (pe_one (pe_callB (cr_all rfl) (by rfl) T.b_all PyProof.Rows.boot_all (pa_cons (pe_lc (own := [("row", 3)]) rfl sc_is_square.nd (pi_tup (pv 2)) (blkOk_by (N := N_is_square) (sc := defScope s_is_square) (by decide +kernel)) (fun _ _ _ _ _ => (pg_name (i := 3) sc_is_square.nd rfl (.inl rfl))) (fun _ _ _ _ _ => pts_nil) (fun _ _ _ _ _ => (pe_call G_are_numbers hr (by rfl) T.d_are_numbers.g T.d_are_numbers.F.kp T.d_are_numbers.b .nil pass0 (pa_cons (pv 0) (pa_cons (pv 1) (pa_cons (pv 3) pa_nil)))))) pa_nil))))))), ?_⟩
    refine ⟨x, rfl, x, _, _, _, _, rfl, .ty "tuple", ty, isi_of "tuple" ht (by simp), _, rfl, ite2 (fun e => ?_) (fun e => ?_)⟩
    · rw [et] at e
      obtain ⟨a, xs, ds, rfl, ha, hds, rfl⟩ := isTup_of th e
      have hl' := hl.1 ds rfl
      have hxl := hds.length
      refine ⟨.ref a, rfl, a, xs, rfl, .inr (SqT.of ha), .int n, rfl, rfl, _, rfl, ite2 (fun e => ?_) (fun e => ?_)⟩
      · have e2 : (ds.length : Int) = n := by
          rw [← hds.length]
          exact V.int.inj (of_decide_eq_true e)
        refine ⟨.ref a, rfl, a, rfl, ⟨_, SqT.of ha⟩, fun D hD => lc_tup (xs := xs) (fun i H' => Same H H' ∧ H' D = some (.lst (((ds.take i).map (areNumD p n)).map V.bl))) ⟨same_upd hD, upd_same⟩ (fun i H' _ h => .inl (.inl (h.1 _ _ ha))) ?_ ?_⟩
        · rintro i y H' hi ⟨s1, hDs⟩
          obtain ⟨dy, ey, hy⟩ := hds.get hi
          refine ⟨rfl, .int p, rfl, .int n, rfl, y, rfl, p, n, y, dy, rfl, hy.same s1, hl.in_ (List.mem_of_getElem? ey), fun H2 s2 => ⟨_, s2 _ _ hDs, ?_, same_put (s1.trans s2) hD, ?_⟩⟩
          · rw [List.length_map, List.length_map, List.length_take]
            have e : sizeLine = 16777216 := by decide
            omega
          · rw [upd_same, List.take_add_one, ey, List.map_append, List.map_append]
            rfl
        · rintro H' ⟨s1, hDs⟩
          refine ⟨D, _, rfl, SqL.of hDs, ?_⟩
          have e3 : ((ds.take xs.length).map (areNumD p n)).all id = ds.all (areNumD p n) := by
            rw [hxl, List.take_length, List.all_map]
            rfl
          have e4 : isSqD p n (.tuple ds) = ds.all (areNumD p n) := by
            show (decide ((ds.length : Int) = n) && ds.all (areNumD p n)) = _
            rw [decide_eq_true e2]
            rfl
          have q' := q H' s1
          rw [e4, ← e3] at q'
          exact q'
      · have e2 : ¬ ((ds.length : Int) = n) := fun z => e (decide_eq_true (by rw [hds.length, z]))
        have e4 : isSqD p n (.tuple ds) = false := by
          show (decide ((ds.length : Int) = n) && ds.all (areNumD p n)) = _
          rw [decide_eq_false e2]
          rfl
        have q' := q H (Same.refl _)
        rw [e4] at q'
        exact q'
    · rw [et] at e
      have q' := q H (Same.refl _)
      rw [isSq_false (Bool.eq_false_iff.mpr e)] at q'
      exact q'
/-- a square is a tuple of tuples of numbers -/
theorem sq_at {p : Int} {m : Nat} {H : Hp} {x : V} {d : PyData} (th : Dq H x d) (e : isSqD p (m : Nat) d = true) : ∃ a ys, x = .ref a ∧ H a = some (.tup ys) ∧ Trs H ys (gridOf d) ∧ (gridOf d).length = m ∧ ∀ g ∈ gridOf d, g.length = m ∧ Rg p g := by
  cases h : isTup d with
  | false => rw [isSq_false h] at e; cases e
  | true =>
    obtain ⟨a, xs, ds, rfl, ha, hds, rfl⟩ := isTup_of th h
    have e : (decide ((ds.length : Int) = (m : Nat)) && ds.all (areNumD p (m : Nat))) = true := e
    rw [Bool.and_eq_true, decide_eq_true_iff, List.all_eq_true] at e
    obtain ⟨e1, e2⟩ := e
    have gl : (gridOf (.tuple ds)).length = ds.length := List.length_map ..
    refine ⟨a, xs, rfl, ha, ⟨by rw [gl, hds.length], fun {i y} ey => ?_⟩, by omega, fun g hg => ?_⟩
    · obtain ⟨dy, edy, hy⟩ := hds.get ey
      obtain ⟨b, rfl, hb, _, _⟩ := hy.nums (e2 dy (List.mem_of_getElem? edy))
      exact ⟨b, numsOf dy, rfl, by show (ds.map numsOf)[i]? = _; rw [List.getElem?_map, edy]; rfl, hb⟩
    · obtain ⟨dy, hd, rfl⟩ := List.mem_map.mp (show g ∈ ds.map numsOf from hg)
      obtain ⟨i, hi, edy⟩ := List.mem_iff_getElem.mp hd
      have hx : i < xs.length := by rw [hds.length]; exact hi
      obtain ⟨dz, edz, hz⟩ := hds.get (List.getElem?_eq_getElem hx)
      rw [List.getElem?_eq_getElem hi, edy] at edz
      cases edz
      obtain ⟨b, _, _, h1, h2⟩ := hz.nums (e2 dy hd)
      exact ⟨by omega, h1⟩
/-! ### is it a hold -/
def spIsHold : Sp := fun vs H Q _ => ∃ (m : Nat) (x : V) (d : PyData), vs = [.int (m : Nat), x] ∧ Dq H x d ∧ Few d ∧ ∀ H', Same H H' → Q (.bl (areNumD 2 (m : Nat) d)) H'
theorem ok_is_hold (T : Tx K mg A) : FnOk P w K mg base CX0 4 A.f_is_hold A.d_is_hold ["posts", "thing"] spIsHold := by
  have G_are_numbers : FnOk P w K mg base CX0 3 A.f_are_numbers A.d_are_numbers ["p", "many", "thing"] spAreN := ok_are_numbers T
  refine T.d_is_hold.F.ok sc_is_hold (fun vs H Q E h => ?_) (fun cdv A outer s H vs Q E hr h => ?_)
  · obtain ⟨m, x, d, rfl, _⟩ := h
    rfl
  · obtain ⟨m, x, d, rfl, hd, few, q⟩ := h
    refine ⟨_, (pss_one (ps_ret (pe_call G_are_numbers hr (by rfl) T.d_are_numbers.g T.d_are_numbers.F.kp T.d_are_numbers.b .nil pass0 (pa_cons pe_int (pa_cons (pv 0) (pa_cons (pv 1) pa_nil)))))), ?_⟩
    exact ⟨.int (m : Nat), rfl, x, rfl, 2, (m : Nat), x, d, rfl, hd, few, q⟩
def symB (m : Nat) (gs : List (List Int)) : Bool := (List.range m).all fun k => decide ((gs.map fun r => vec r k) = gs.getD k [])
def boardD (p : Int) (m : Nat) (d : PyData) : Bool := isSqD p (m : Nat) d && symB m (gridOf d)
theorem all_snoc {α : Type} {f : α → Bool} {xs : List α} {i : Nat} {x : α} (e : xs[i]? = some x) : (xs.take (i + 1)).all f = ((xs.take i).all f && f x) := by
  rw [take_snoc e, List.all_append]
  simp only [List.all_cons, List.all_nil, Bool.and_true]
theorem areNum_split {p : Int} {m : Nat} {ds : List PyData} (l : ds.length = m) (ai : ds.all isInt = true) : areNumD p (m : Nat) (.tuple ds) = (ds.map intOf).all fun i => decide (0 ≤ i) && decide (i < p) := by
  show (decide ((ds.length : Int) = (m : Nat)) && ds.all (isNumD p)) = _
  rw [decide_eq_true (show (ds.length : Int) = (m : Nat) by omega), Bool.true_and, List.all_map]
  rw [List.all_eq_true] at ai
  rw [Bool.eq_iff_iff, List.all_eq_true, List.all_eq_true]
  have one : ∀ d ∈ ds, isNumD p d = (decide (0 ≤ intOf d) && decide (intOf d < p)) := fun d hd => by
    have := ai d hd
    cases d <;> first | rfl | cases this
  exact ⟨fun h d hd => (one d hd).symm.trans (h d hd), fun h d hd => (one d hd).trans (h d hd)⟩
theorem all_ints {H : Hp} : ∀ {xs : List V} {ds : List PyData}, DqAll H xs ds → ds.all isInt = true → xs = (ds.map intOf).map V.int
  | [], [], _, _ => rfl
  | _ :: _, _ :: _, .cons h t, e => by
    rw [List.all_cons, Bool.and_eq_true] at e
    obtain ⟨i, rfl, rfl⟩ := isInt_of h e.1
    rw [List.map_cons, List.map_cons, ← all_ints t e.2]
    rfl
  | [], _ :: _, h, _ => by cases h
  | _ :: _, [], h, _ => by cases h
-- CUT
/-! ### all but the deck and tables stays -/
structure Fs (d g : Addr) (H H' : Hp) : Prop where
  kp : ∀ a o, (∀ ps, o ≠ HO.tbl ps) → a ≠ d → a ≠ g → H a = some o → H' a = some o
  tb : ∀ P, P ≠ d → P ≠ g → GxR.TabG H P → GxR.TabG H' P
section
variable {d g c : Addr} {k : Int} {H H1 H2 : Hp}
theorem Fs.refl (d g : Addr) (H : Hp) : Fs d g H H := ⟨fun _ _ _ _ _ e => e, fun _ _ _ e => e⟩
theorem Fs.trans (a : Fs d g H H1) (b : Fs d g H1 H2) : Fs d g H H2 := ⟨fun x o n h1 h2 e => b.kp x o n h1 h2 (a.kp x o n h1 h2 e), fun P h1 h2 e => b.tb P h1 h2 (a.tb P h1 h2 e)⟩
theorem Fs.of_fr (f : Fr d g H H1) : Fs d g H H1 := ⟨fun x o _ h1 h2 e => f x o h1 h2 e, fun P h1 h2 ⟨ps, e, t⟩ => ⟨ps, f P _ h1 h2 e, t⟩⟩
theorem Fs.of_sm (s : Sm H H1) : Fs d g H H1 := ⟨fun x o n _ _ e => s.kp x o n e, fun P _ _ e => s.tb P e⟩
theorem Fs.of_same (s : Same H H1) : Fs d g H H1 := .of_sm (.of_same s)
theorem Fs.fr (a : Fs d g H H1) (f : Fr d g H1 H2) : Fs d g H H2 := a.trans (.of_fr f)
theorem Fs.sm (a : Fs d g H H1) (s : Sm H1 H2) : Fs d g H H2 := a.trans (.of_sm s)
theorem Fs.tup {t : Addr} {xs : List V} (f : Fs d g H H1) (D : Dk d g c k H) (h : H t = some (.tup xs)) : H1 t = some (.tup xs) := f.kp _ _ (fun _ z => by cases z) (D.nt h).1 (D.nt h).2 h
theorem Fs.lst {t : Addr} {xs : List V} (f : Fs d g H H1) (h1 : t ≠ d) (h2 : t ≠ g) (h : H t = some (.lst xs)) : H1 t = some (.lst xs) := f.kp _ _ (fun _ z => by cases z) h1 h2 h
theorem Fs.tab {t : Addr} (f : Fs d g H H1) (D : Dk d g c k H) (h : GxR.TabG H t) : GxR.TabG H1 t := f.tb _ (D.ntb h).1 (D.ntb h).2 h
theorem Prs.fs {xs : List V} {r : Row} (h : Prs H xs r) (D : Dk d g c k H) (f : Fs d g H H1) : Prs H1 xs r := ⟨h.len, fun e => let ⟨u, e2, a, ea, p⟩ := h.get e; ⟨u, e2, a, ea, f.tup D p⟩⟩
theorem Rw.fs {t : Addr} {r : Row} (h : Rw H t r) (D : Dk d g c k H) (f : Fs d g H H1) : Rw H1 t r := let ⟨xs, e, p⟩ := h; ⟨xs, f.tup D e, p.fs D f⟩
theorem Rk.fs {p : Int} {n : Nat} {t : Addr} {r : Row} (h : Rk p n H t r) (D : Dk d g c k H) (f : Fs d g H H1) : Rk p n H1 t r := ⟨h.rw.fs D f, h.inp, h.len⟩
theorem Rws.fs {p : Int} {n : Nat} {xs : List V} {rs : List Row} (h : Rws p n H xs rs) (D : Dk d g c k H) (f : Fs d g H H1) : Rws p n H1 xs rs := ⟨h.len, fun e => let ⟨a, r, h1, h2, h3⟩ := h.get e; ⟨a, r, h1, h2, h3.fs D f⟩, h.fit⟩
end
/-! ### things of any depth by their bulk (bendings that double what is bent) -/
mutual
def lfB (B : Nat) : PyData → Bool
  | .none | .bool _ => true
  | .int i => decide (i.natAbs ≤ B)
  | .str x => x.cps.toList.all fun c => decide (c < 16 ^ 8)
  | .list xs | .tuple xs => lfAll B xs
  | .dict kvs => kvs.isEmpty
def lfAll (B : Nat) : List PyData → Bool
  | [] => true
  | x :: xs => lfB B x && lfAll B xs
end
mutual
theorem lf_good {B : Nat} (hB : B < 10 ^ 41) : ∀ d : PyData, lfB B d = true → d.showable = true ∧ d.leavesShort 42 = true
  | .none, _ => ⟨by simp [PyData.showable], by simp [PyData.leavesShort]⟩
  | .bool _, _ => ⟨by simp [PyData.showable], by simp [PyData.leavesShort]⟩
  | .int i, h => by
    have h1 : i.natAbs ≤ B := by simpa [lfB] using h
    refine ⟨?_, ?_⟩
    · simp only [PyData.showable, decide_eq_true_eq]
      have h2 : i.natAbs < 2 ^ 140 := Nat.lt_of_le_of_lt h1 (Nat.lt_trans hB (by decide))
      exact Nat.lt_of_lt_of_le (PySem.Flt.log2_lt_of (by decide) h2) (by omega)
    · simp only [PyData.leavesShort, decide_eq_true_eq]
      have e := int_text_length_le10 (a := i) (k := 41) (by decide) (by omega)
      show (Str.ofString (toString i)).length ≤ 42
      rw [PySem.ofString_length]
      exact e
  | .str x, h => ⟨by simp [PyData.showable], by simpa [lfB, PyData.leavesShort] using h⟩
  | .list xs, h => by
    have := lf_goodAll hB xs (by simpa [lfB] using h)
    exact ⟨by simpa [PyData.showable] using this.1, by simpa [PyData.leavesShort] using this.2⟩
  | .tuple xs, h => by
    have := lf_goodAll hB xs (by simpa [lfB] using h)
    exact ⟨by simpa [PyData.showable] using this.1, by simpa [PyData.leavesShort] using this.2⟩
  | .dict kvs, h => by
    have e : kvs = [] := by simpa [lfB] using h
    subst e
    exact ⟨by simp [PyData.showable, PyData.showableKv], by simp [PyData.leavesShort, PyData.leavesShortKv]⟩
theorem lf_goodAll {B : Nat} (hB : B < 10 ^ 41) : ∀ ds : List PyData, lfAll B ds = true → PyData.showableAll ds = true ∧ PyData.leavesShortAll 42 ds = true
  | [], _ => ⟨by simp [PyData.showableAll], by simp [PyData.leavesShortAll]⟩
  | d :: ds, h => by
    have h' : lfB B d = true ∧ lfAll B ds = true := by simpa [lfAll] using h
    have a := lf_good hB d h'.1
    have b := lf_goodAll hB ds h'.2
    exact ⟨by simp [PyData.showableAll, a.1, b.1], by simp [PyData.leavesShortAll, a.2, b.2]⟩
end
mutual
theorem lf_mono {B B' : Nat} (hB : B ≤ B') : ∀ d : PyData, lfB B d = true → lfB B' d = true
  | .none, _ => by simp [lfB]
  | .bool _, _ => by simp [lfB]
  | .int i, h => by
    have h1 : i.natAbs ≤ B := by simpa [lfB] using h
    simp only [lfB, decide_eq_true_eq]
    omega
  | .str x, h => by simpa [lfB] using h
  | .list xs, h => by simpa [lfB] using lf_monoAll hB xs (by simpa [lfB] using h)
  | .tuple xs, h => by simpa [lfB] using lf_monoAll hB xs (by simpa [lfB] using h)
  | .dict kvs, h => by simpa [lfB] using h
theorem lf_monoAll {B B' : Nat} (hB : B ≤ B') : ∀ ds : List PyData, lfAll B ds = true → lfAll B' ds = true
  | [], _ => by simp [lfAll]
  | d :: ds, h => by
    have h' : lfB B d = true ∧ lfAll B ds = true := by simpa [lfAll] using h
    simp [lfAll, lf_mono hB d h'.1, lf_monoAll hB ds h'.2]
end
def Gb (B n m : Nat) (d : PyData) : Prop := lfB B d = true ∧ d.bulk ≤ n ∧ d.depth ≤ m
def GbAll (B n m : Nat) (ds : List PyData) : Prop := lfAll B ds = true ∧ PyData.bulkAll ds ≤ n ∧ PyData.depthAll ds ≤ m
theorem Gb.mono {B n m B' n' m' : Nat} {d : PyData} (h : Gb B n m d) (e : B ≤ B') (a : n ≤ n') (b : m ≤ m') : Gb B' n' m' d := ⟨lf_mono e _ h.1, by have := h.2.1; omega, by have := h.2.2; omega⟩
theorem GbAll.mono {B n m B' n' m' : Nat} {d : List PyData} (h : GbAll B n m d) (e : B ≤ B') (a : n ≤ n') (b : m ≤ m') : GbAll B' n' m' d := ⟨lf_monoAll e _ h.1, by have := h.2.1; omega, by have := h.2.2; omega⟩
theorem GbAll.nil {B n m : Nat} : GbAll B n m [] := ⟨by simp [lfAll], by simp [PyData.bulkAll], by simp [PyData.depthAll]⟩
theorem GbAll.cons {B a b m : Nat} {d : PyData} {ds : List PyData} (h : Gb B a m d) (k : GbAll B b m ds) : GbAll B (a + 1 + b) m (d :: ds) := by
  obtain ⟨h1, h3, h4⟩ := h
  obtain ⟨k1, k3, k4⟩ := k
  refine ⟨by simp [lfAll, h1, k1], ?_, ?_⟩
  · simp only [PyData.bulkAll]
    omega
  · simp only [PyData.depthAll]
    omega
theorem GbAll.head {B n m : Nat} {d : PyData} {ds : List PyData} (h : GbAll B n m (d :: ds)) : ∃ a b, a + 1 + b ≤ n ∧ Gb B a m d ∧ GbAll B b m ds := by
  obtain ⟨h1, h3, h4⟩ := h
  simp only [lfAll, Bool.and_eq_true] at h1
  simp only [PyData.bulkAll] at h3
  simp only [PyData.depthAll] at h4
  exact ⟨d.bulk, PyData.bulkAll ds, h3, ⟨h1.1, Nat.le_refl _, by omega⟩, ⟨h1.2, Nat.le_refl _, by omega⟩⟩
theorem GbAll.append {B m : Nat} : ∀ {a b : Nat} {xs ys : List PyData}, GbAll B a m xs → GbAll B b m ys → GbAll B (a + b) m (xs ++ ys)
  | _, _, [], _, _, k => k.mono (Nat.le_refl _) (by omega) (Nat.le_refl _)
  | a, b, x :: xs, _, h, k => by
    obtain ⟨u, v, e, h1, h2⟩ := h.head
    exact (GbAll.cons h1 (GbAll.append h2 k)).mono (Nat.le_refl _) (by omega) (Nat.le_refl _)
theorem GbAll.split {B m : Nat} : ∀ {n : Nat} (xs : List PyData) {ys : List PyData}, GbAll B n m (xs ++ ys) → ∃ a b, a + b ≤ n ∧ GbAll B a m xs ∧ GbAll B b m ys
  | n, [], _, h => ⟨0, n, by omega, .nil, h⟩
  | n, x :: xs, _, h => by
    obtain ⟨u, v, e, h1, h2⟩ := GbAll.head (show GbAll B n m (x :: (xs ++ _)) from h)
    obtain ⟨a, b, e2, k1, k2⟩ := GbAll.split xs h2
    exact ⟨u + 1 + a, b, by omega, .cons h1 k1, k2⟩
theorem GbAll.cut {B n m : Nat} {ds : List PyData} (i : Nat) (h : GbAll B n m ds) : ∃ a b, a + b ≤ n ∧ GbAll B a m (ds.take i) ∧ GbAll B b m (ds.drop i) := by
  rw [← List.take_append_drop i ds] at h
  exact GbAll.split _ h
theorem GbAll.take {B n m : Nat} {ds : List PyData} (i : Nat) (h : GbAll B n m ds) : GbAll B n m (ds.take i) := by
  obtain ⟨a, b, e, h1, _⟩ := h.cut i
  exact h1.mono (Nat.le_refl _) (by omega) (Nat.le_refl _)
theorem GbAll.drop {B n m : Nat} {ds : List PyData} (i : Nat) (h : GbAll B n m ds) : GbAll B n m (ds.drop i) := by
  obtain ⟨a, b, e, _, h1⟩ := h.cut i
  exact h1.mono (Nat.le_refl _) (by omega) (Nat.le_refl _)
theorem GbAll.rev {B m : Nat} : ∀ {n : Nat} {ds : List PyData}, GbAll B n m ds → GbAll B n m ds.reverse
  | _, [], h => h
  | n, x :: xs, h => by
    obtain ⟨u, v, e, h1, h2⟩ := h.head
    rw [List.reverse_cons]
    exact ((GbAll.rev h2).append (GbAll.cons h1 (GbAll.nil (n := 0)))).mono (Nat.le_refl _) (by omega) (Nat.le_refl _)
theorem GbAll.get {B m : Nat} : ∀ {n : Nat} {ds : List PyData} {i : Nat} {d : PyData}, GbAll B n m ds → ds[i]? = some d → Gb B n m d
  | _, [], _, _, _, e => by simp at e
  | n, x :: xs, 0, d, h, e => by
    obtain ⟨u, v, e2, h1, h2⟩ := h.head
    cases (Option.some.inj e)
    exact h1.mono (Nat.le_refl _) (by omega) (Nat.le_refl _)
  | n, x :: xs, i + 1, d, h, e => by
    obtain ⟨u, v, e2, h1, h2⟩ := h.head
    exact (GbAll.get (i := i) h2 (show xs[i]? = some d from e)).mono (Nat.le_refl _) (by omega) (Nat.le_refl _)
theorem GbAll.len {B m : Nat} : ∀ {n : Nat} {ds : List PyData}, GbAll B n m ds → ds.length ≤ n
  | _, [], _ => Nat.zero_le _
  | n, _ :: r, h => by
    obtain ⟨u, v, e, h1, h2⟩ := h.head
    have z := GbAll.len h2
    show r.length + 1 ≤ n
    omega
/-- what lies at a place, what is ahead of it and behind it -/
theorem GbAll.three {B n m : Nat} {ds : List PyData} {i : Nat} {d : PyData} (h : GbAll B n m ds) (e : ds[i]? = some d) : ∃ a b c, a + b + 1 + c ≤ n ∧ GbAll B a m (ds.take i) ∧ Gb B b m d ∧ GbAll B c m (ds.drop (i + 1)) := by
  obtain ⟨a, b, l, h1, h2⟩ := h.cut i
  have hi : i < ds.length := (List.getElem?_eq_some_iff.mp e).1
  rw [List.drop_eq_getElem_cons hi] at h2
  obtain ⟨u, v, l2, h3, h4⟩ := h2.head
  have ed : ds[i] = d := (List.getElem?_eq_some_iff.mp e).2
  rw [ed] at h3
  exact ⟨a, u, v, by omega, h1, h3, h4⟩
theorem Gb.tup {B n m : Nat} {ds : List PyData} (h : GbAll B n m ds) : Gb B n (m + 1) (.tuple ds) := by
  obtain ⟨h1, h3, h4⟩ := h
  exact ⟨by simp only [lfB]; exact h1, by simp only [PyData.bulk]; exact h3, by simp only [PyData.depth]; omega⟩
theorem Gb.lst {B n m : Nat} {ds : List PyData} (h : GbAll B n m ds) : Gb B n (m + 1) (.list ds) := by
  obtain ⟨h1, h3, h4⟩ := h
  exact ⟨by simp only [lfB]; exact h1, by simp only [PyData.bulk]; exact h3, by simp only [PyData.depth]; omega⟩
theorem Gb.of_tup {B n m : Nat} {ds : List PyData} (h : Gb B n m (.tuple ds)) : ∃ m', m = m' + 1 ∧ GbAll B n m' ds := by
  obtain ⟨h1, h3, h4⟩ := h
  simp only [lfB] at h1
  simp only [PyData.bulk] at h3
  simp only [PyData.depth] at h4
  exact ⟨m - 1, by omega, h1, h3, by omega⟩
theorem Gb.few {B n m : Nat} {ds : List PyData} (h : Gb B n m (.tuple ds)) : ds.length ≤ n := by
  obtain ⟨_, _, h⟩ := h.of_tup
  exact h.len
theorem Gb.of_int {B n m : Nat} {i : Int} (h : Gb B n m (.int i)) : i.natAbs ≤ B := by
  have := h.1
  simpa [lfB] using this
theorem Gb.int {B n m : Nat} {i : Int} (h : i.natAbs ≤ B) : Gb B n m (.int i) := ⟨by simp [lfB, h], by simp [PyData.bulk], by simp [PyData.depth]⟩
theorem Gb.bl {B n m : Nat} {z : Bool} : Gb B n m (.bool z) := ⟨by simp [lfB], by simp [PyData.bulk], by simp [PyData.depth]⟩
theorem Gb.non {B n m : Nat} : Gb B n m .none := ⟨by simp [lfB], by simp [PyData.bulk], by simp [PyData.depth]⟩
theorem Gb.str {B n m : Nat} {z : Str} (h1 : (z.cps.toList.all fun c => decide (c < 16 ^ 8)) = true) (h2 : z.cps.size ≤ n) : Gb B n m (.str z) := ⟨by simp only [lfB]; exact h1, by simpa [PyData.bulk] using h2, by simp [PyData.depth]⟩
theorem Gb.dic {B n m : Nat} : Gb B n (m + 1) (.dict []) := ⟨by simp [lfB], by simp [PyData.bulk, PyData.bulkKv], by simp [PyData.depth, PyData.depthKv]⟩
theorem Gb.shown {B n m : Nat} {d : PyData} (h : Gb B n m d) (hB : B < 10 ^ 41) : d.shown.length ≤ 44 * n + 42 := by
  have z := PyData.shown_le_bulk 42 (by decide) d (lf_good hB d h.1).2
  have k := h.2.1
  omega
theorem Gb.showable {B n m : Nat} {d : PyData} (h : Gb B n m d) (hB : B < 10 ^ 41) : d.showable = true := (lf_good hB d h.1).1
/-- how long a told tuple of three is -/
theorem shown3 {a b c : PyData} {x y z : Nat} (ha : a.shown.length ≤ x) (hb : b.shown.length ≤ y) (hc : c.shown.length ≤ z) (h : x + y + z + 12 ≤ sizeLine) : (PyData.tuple [a, b, c]).shown.length ≤ sizeLine := by
  have e := tupleText_len_le (PyData.shownAll [a, b, c])
  simp only [PyData.shownAll, List.map_cons, List.map_nil, List.sum_cons, List.sum_nil, List.length_cons, List.length_nil] at e
  simp only [PyData.shown, PyData.shownAll]
  omega
open Classical in
/-- a heap without what N holds -/
noncomputable def cutN (N : Addr → Prop) (H : Hp) : Hp := fun a => if N a then none else H a
theorem cutN_same {N : Addr → Prop} {H : Hp} : Same (cutN N H) H := fun a o e => by
  unfold cutN at e
  split at e
  · cases e
  · exact e
theorem cutN_at {N : Addr → Prop} {a : Addr} {H : Hp} {o : HO} (h1 : ¬ N a) (e : H a = some o) : cutN N H a = some o := by
  unfold cutN
  rw [if_neg h1]
  exact e
theorem cutN_not {N : Addr → Prop} {a : Addr} {H : Hp} {o : HO} (e : cutN N H a = some o) : ¬ N a ∧ H a = some o := by
  unfold cutN at e
  split at e
  · cases e
  · rename_i n
    exact ⟨n, e⟩
/-- what N holds: the deck's two lists and other lists -/
structure AlN (N : Addr → Prop) (d g : Addr) (H : Hp) : Prop where
  d : N d
  g : N g
  al : ∀ a, N a → ∃ xs, H a = some (.lst xs)
def TB (N : Addr → Prop) (B n m : Nat) (H : Hp) (x : V) : Prop := ∃ dd, Dq (cutN N H) x dd ∧ Gb B n m dd
def TBs (N : Addr → Prop) (B n m : Nat) (H : Hp) (xs : List V) : Prop := ∃ ds, DqAll (cutN N H) xs ds ∧ GbAll B n m ds
section
variable {N : Addr → Prop} {d g c : Addr} {k : Int} {B n m B' n' m' : Nat} {H H' : Hp} {x : V} {xs ys : List V}
theorem AlN.nd {p : Addr} (O : AlN N d g H) (h : H p = none) : ¬ N p := fun z => by
  obtain ⟨xs, e⟩ := O.al p z
  rw [h] at e
  cases e
theorem AlN.nt {p : Addr} (O : AlN N d g H) (h : H p = some (.tup xs)) : ¬ N p := fun z => by
  obtain ⟨xs, e⟩ := O.al p z
  rw [h] at e
  cases e
theorem AlN.same (O : AlN N d g H) (s : Same H H') : AlN N d g H' := ⟨O.d, O.g, fun a z => let ⟨xs, e⟩ := O.al a z; ⟨xs, s _ _ e⟩⟩
theorem AlN.fs (O : AlN N d g H) (D : Dk d g c k H') (f : Fs d g H H') : AlN N d g H' := ⟨O.d, O.g, fun a z => by
  obtain ⟨gs, cs, n, h1, h2, _⟩ := D.ex
  by_cases e1 : a = d
  · rw [e1]
    exact ⟨_, h1⟩
  · by_cases e2 : a = g
    · rw [e2]
      exact ⟨_, h2⟩
    · obtain ⟨xs, e⟩ := O.al a z
      exact ⟨xs, f.lst e1 e2 e⟩⟩
theorem AlN.fr (O : AlN N d g H) (D : Dk d g c k H') (f : Fr d g H H') : AlN N d g H' := O.fs D (.of_fr f)
theorem AlN.putL (O : AlN N d g H) {L : Addr} {zs : List V} : AlN N d g (upd H L (.lst zs)) := ⟨O.d, O.g, fun a z => by
  by_cases e : a = L
  · rw [e, upd_same]
    exact ⟨_, rfl⟩
  · rw [upd_ne e]
    exact O.al a z⟩
theorem cutN_fr (O : AlN N d g H) (f : Fr d g H H') : Same (cutN N H) (cutN N H') := fun a o e => by
  obtain ⟨n, e⟩ := cutN_not e
  exact cutN_at n (f _ _ (fun z => n (z ▸ O.d)) (fun z => n (z ▸ O.g)) e)
theorem TB.fr (h : TB N B n m H x) (O : AlN N d g H) (f : Fr d g H H') : TB N B n m H' x := let ⟨dd, h1, h2⟩ := h; ⟨dd, h1.same (cutN_fr O f), h2⟩
theorem TBs.fr (h : TBs N B n m H xs) (O : AlN N d g H) (f : Fr d g H H') : TBs N B n m H' xs := let ⟨dd, h1, h2⟩ := h; ⟨dd, h1.same (cutN_fr O f), h2⟩
/-- a list of N written -/
theorem TB.put {L : Addr} {o : HO} (h : TB N B n m H x) (hL : N L) : TB N B n m (upd H L o) x := let ⟨dd, h1, h2⟩ := h; ⟨dd, h1.same fun a o e => by
  obtain ⟨n, e⟩ := cutN_not e
  exact cutN_at n (by rw [upd_ne (fun z => n (by rw [z]; exact hL))]; exact e), h2⟩
theorem TB.fs (h : TB N B n m H x) (O : AlN N d g H) (f : Fs d g H H') : TB N B n m H' x := by
  obtain ⟨dd, h1, h2⟩ := h
  have all := Dq.monoAll (H' := cutN N H') (fun a o e => by
    obtain ⟨n, e⟩ := cutN_not e
    have n1 : a ≠ d := fun z => n (z ▸ O.d)
    have n2 : a ≠ g := fun z => n (z ▸ O.g)
    exact ⟨fun _ z => cutN_at n (f.kp _ _ (fun _ w => by rw [z] at w; cases w) n1 n2 e), fun _ z => cutN_at n (f.kp _ _ (fun _ w => by rw [z] at w; cases w) n1 n2 e), fun _ z => cutN_at n (f.kp _ _ (fun _ w => by rw [z] at w; cases w) n1 n2 e)⟩) [dd] [x] (.cons h1 .nil)
  cases all with
  | cons a _ => exact ⟨dd, a, h2⟩
/-- what N does not hold any more -/
theorem TB.less {N' : Addr → Prop} (h : TB N B n m H x) (s : ∀ a, N' a → N a) : TB N' B n m H x := let ⟨dd, h1, h2⟩ := h; ⟨dd, h1.same fun a o e => by
  obtain ⟨n, e⟩ := cutN_not e
  exact cutN_at (fun z => n (s a z)) e, h2⟩
theorem Fs.put {L : Addr} {o : HO} (s : Fs d g H H') (h : H L = none) : Fs d g H (upd H' L o) := by
  refine ⟨fun x u n n1 n2 e => ?_, fun R n1 n2 ⟨ps, e, t⟩ => ?_⟩
  · rw [upd_ne (ne_of_none e h)]
    exact s.kp _ _ n n1 n2 e
  · obtain ⟨qs, e2, t2⟩ := s.tb R n1 n2 ⟨ps, e, t⟩
    exact ⟨qs, by rw [upd_ne (ne_of_none e h)]; exact e2, t2⟩
theorem TB.mono (h : TB N B n m H x) (e : B ≤ B') (a : n ≤ n') (b : m ≤ m') : TB N B' n' m' H x := let ⟨dd, h1, h2⟩ := h; ⟨dd, h1, h2.mono e a b⟩
theorem TBs.mono (h : TBs N B n m H xs) (e : B ≤ B') (a : n ≤ n') (b : m ≤ m') : TBs N B' n' m' H xs := let ⟨dd, h1, h2⟩ := h; ⟨dd, h1, h2.mono e a b⟩
theorem TBs.nil : TBs N B n m H [] := ⟨[], .nil, .nil⟩
theorem TBs.cons (h : TB N B n m H x) (t : TBs N B n' m H xs) : TBs N B (n + 1 + n') m H (x :: xs) := let ⟨a, h1, h2⟩ := h; let ⟨b, t1, t2⟩ := t; ⟨a :: b, .cons h1 t1, .cons h2 t2⟩
theorem TBs.append (h : TBs N B n m H xs) (t : TBs N B n' m H ys) : TBs N B (n + n') m H (xs ++ ys) := let ⟨a, h1, h2⟩ := h; let ⟨b, t1, t2⟩ := t; ⟨a ++ b, h1.append t1, h2.append t2⟩
theorem TBs.take (h : TBs N B n m H xs) (i : Nat) : TBs N B n m H (xs.take i) := let ⟨_, h1, h2⟩ := h; ⟨_, h1.take i, h2.take i⟩
theorem TBs.drop (h : TBs N B n m H xs) (i : Nat) : TBs N B n m H (xs.drop i) := let ⟨_, h1, h2⟩ := h; ⟨_, h1.drop i, h2.drop i⟩
theorem TBs.rev (h : TBs N B n m H xs) : TBs N B n m H xs.reverse := let ⟨_, h1, h2⟩ := h; ⟨_, h1.rev, h2.rev⟩
theorem TBs.get {i : Nat} (h : TBs N B n m H xs) (e : xs[i]? = some x) : TB N B n m H x := by
  obtain ⟨ds, h1, h2⟩ := h
  obtain ⟨dd, e1, e2⟩ := h1.get e
  exact ⟨dd, e2, h2.get e1⟩
theorem TBs.len (h : TBs N B n m H xs) : xs.length ≤ n := by
  obtain ⟨ds, h1, h2⟩ := h
  rw [h1.length]
  exact h2.len
theorem TBs.three {i : Nat} (h : TBs N B n m H xs) (e : xs[i]? = some x) : ∃ a b c, a + b + 1 + c ≤ n ∧ TBs N B a m H (xs.take i) ∧ TB N B b m H x ∧ TBs N B c m H (xs.drop (i + 1)) := by
  obtain ⟨ds, h1, h2⟩ := h
  obtain ⟨dd, e1, e2⟩ := h1.get e
  obtain ⟨a, b, c, l, k1, k2, k3⟩ := h2.three e1
  exact ⟨a, b, c, l, ⟨_, h1.take i, k1⟩, ⟨_, e2, k2⟩, ⟨_, h1.drop (i + 1), k3⟩⟩
theorem TBs.split (i : Nat) (h : TBs N B n m H xs) : ∃ a b, a + b ≤ n ∧ TBs N B a m H (xs.take i) ∧ TBs N B b m H (xs.drop i) := by
  obtain ⟨ds, h1, h2⟩ := h
  obtain ⟨a, b, l, k1, k2⟩ := h2.cut i
  exact ⟨a, b, l, ⟨_, h1.take i, k1⟩, ⟨_, h1.drop i, k2⟩⟩
theorem TB.newT {p : Addr} (O : AlN N d g H) (hp : H p = none) (h : TBs N B n m H xs) : TB N B n (m + 1) (upd H p (.tup xs)) (.ref p) := by
  obtain ⟨ds, h1, h2⟩ := h
  exact ⟨.tuple ds, .tup (cutN_at (O.nd hp) upd_same) (h1.same (cutN_fr O (Fr.new hp))), .tup h2⟩
theorem TB.newL {p : Addr} (O : AlN N d g H) (hp : H p = none) (h : TBs N B n m H xs) : TB N B n (m + 1) (upd H p (.lst xs)) (.ref p) := by
  obtain ⟨ds, h1, h2⟩ := h
  exact ⟨.list ds, .lst (cutN_at (O.nd hp) upd_same) (h1.same (cutN_fr O (Fr.new hp))), .lst h2⟩
theorem TB.newD {p : Addr} (O : AlN N d g H) (hp : H p = none) : TB N B n (m + 1) (upd H p (.dK [])) (.ref p) := ⟨.dict [], .dic (cutN_at (O.nd hp) upd_same) .nil, .dic⟩
theorem TB.tupOf {a : Addr} (e : H a = some (.tup xs)) (h1 : ¬ N a) (t : TBs N B n m H xs) : TB N B n (m + 1) H (.ref a) := by
  obtain ⟨ds, k1, k2⟩ := t
  exact ⟨.tuple ds, .tup (cutN_at h1 e) k1, .tup k2⟩
theorem TB.int {i : Int} (h : i.natAbs ≤ B) : TB N B n m H (.int i) := ⟨.int i, .int i, .int h⟩
theorem TB.bl {z : Bool} : TB N B n m H (.bl z) := ⟨.bool z, .bl z, .bl⟩
theorem TB.non : TB N B n m H .non := ⟨.none, .non, .non⟩
theorem TB.str {z : Str} (h1 : (z.cps.toList.all fun c => decide (c < 16 ^ 8)) = true) (h2 : z.cps.size ≤ n) : TB N B n m H (.str z) := ⟨.str z, .str z, .str h1 h2⟩
/-- a tuple of such, one less deep; or no tuple -/
theorem TB.ty (K : PySem.W.Frag) (h : TB N B n m H x) (O : AlN N d g H) : ∃ t, TyB1 K H x t ∧ ((isB t "tuple" = true ∧ ∃ a xs m0, m = m0 + 1 ∧ x = .ref a ∧ H a = some (.tup xs) ∧ a ≠ d ∧ a ≠ g ∧ ¬ N a ∧ TBs N B n m0 H xs) ∨ isB t "tuple" = false) ∧ ((isB t "int" && !isB t "bool") = true → ∃ i, x = .int i ∧ i.natAbs ≤ B) := by
  obtain ⟨dd, h1, h2⟩ := h
  have h1' := h1.same cutN_same
  obtain ⟨t, ty, ei, et⟩ := h1'.ty (K := K)
  refine ⟨t, ty, ?_, fun z => ?_⟩
  · cases q : isTup dd with
    | false => exact .inr (et.trans q)
    | true =>
      obtain ⟨a, xs, ds, rfl, ha, hds, rfl⟩ := isTup_of h1 q
      obtain ⟨m0, rfl, h4⟩ := h2.of_tup
      obtain ⟨na, ha⟩ := cutN_not ha
      exact .inl ⟨et.trans q, a, xs, m0, rfl, rfl, ha, fun z => na (z ▸ O.d), fun z => na (z ▸ O.g), na, ds, hds, h4⟩
  · rw [ei] at z
    obtain ⟨i, rfl, rfl⟩ := isInt_of h1 z
    exact ⟨i, rfl, h2.of_int⟩
/-- what it is in the whole heap -/
theorem TB.dq (h : TB N B n m H x) : ∃ dd, Dq H x dd ∧ Gb B n m dd := let ⟨dd, h1, h2⟩ := h; ⟨dd, h1.same cutN_same, h2⟩
end
-- CUT
/-! ### gadgets, whatever they are -/
def numG (g : List Int) : PyData := .tuple (g.map PyData.int)
theorem trs_refs {H : Hp} : ∀ {ys : List V} {gs : List (List Int)}, Trs H ys gs → ∃ as : List Addr, ys = as.map V.ref ∧ as.length = gs.length ∧ ∀ (j : Nat) (a : Addr) (g : List Int), as[j]? = some a → gs[j]? = some g → H a = some (.tup (g.map V.int))
  | [], gs, h => by
    have := h.len
    exact ⟨[], rfl, by simpa using this, fun j a g e => by cases e⟩
  | _ :: _, [], h => by have := h.len; simp at this
  | y :: ys, g :: gs, h => by
    obtain ⟨a, u, rfl, e1, e2⟩ := h.get (i := 0) (y := y) rfl
    cases e1
    obtain ⟨as, e3, e4, e5⟩ := trs_refs (ys := ys) (gs := gs) ⟨by have := h.len; simpa using this, fun {i y} e => h.get (i := i + 1) e⟩
    refine ⟨a :: as, by rw [e3]; rfl, by rw [List.length_cons, List.length_cons, e4], fun j b g' f1 f2 => ?_⟩
    match j with
    | 0 =>
      cases f1
      cases f2
      exact e2
    | j + 1 => exact e5 j b g' f1 f2
def colsG (m : Nat) (gs : List (List Int)) : List (List Int) := (List.range m).map fun k => gs.map fun r => vec r k
theorem symB_eq {m : Nat} {gs : List (List Int)} (l : gs.length = m) : symB m gs = decide (gs = colsG m gs) := by
  unfold symB
  rw [Bool.eq_iff_iff, List.all_eq_true, decide_eq_true_iff]
  constructor
  · intro h
    refine List.ext_getElem? fun k => ?_
    unfold colsG
    by_cases hk : k < m
    · have e := of_decide_eq_true (h k (List.mem_range.mpr hk))
      have ek : gs[k]? = some gs[k] := List.getElem?_eq_getElem (by omega)
      rw [List.getD_eq_getElem?_getD, ek] at e
      rw [ek, List.getElem?_map, List.getElem?_range hk]
      show some gs[k] = some (gs.map fun r => vec r k)
      rw [e]
      rfl
    · rw [List.getElem?_eq_none (by omega), List.getElem?_eq_none (by rw [List.length_map, List.length_range]; omega)]
  · intro h k hk
    have hk := List.mem_range.mp hk
    refine decide_eq_true ?_
    have ek : gs[k]? = some (gs.map fun r => vec r k) := by
      conv => lhs; rw [h]
      unfold colsG
      rw [List.getElem?_map, List.getElem?_range hk]
      rfl
    rw [List.getD_eq_getElem?_getD, ek]
    rfl
theorem eqvI22 : ∀ xs ys : List Int, PyData.eqvAll (xs.map PyData.int) (ys.map PyData.int) = decide (xs = ys)
  | [], [] => by simp [PyData.eqvAll]
  | [], _ :: _ => by simp [PyData.eqvAll]
  | _ :: _, [] => by simp [PyData.eqvAll]
  | x :: xs, y :: ys => by
    simp only [List.map_cons, PyData.eqvAll, PyData.eqv]
    rw [eqvI22 xs ys, Bool.eq_iff_iff]
    simp
theorem eqvG : ∀ xs ys : List (List Int), PyData.eqvAll (xs.map numG) (ys.map numG) = decide (xs = ys)
  | [], [] => by simp [PyData.eqvAll]
  | [], _ :: _ => by simp [PyData.eqvAll]
  | _ :: _, [] => by simp [PyData.eqvAll]
  | x :: xs, y :: ys => by
    simp only [List.map_cons, PyData.eqvAll, numG, PyData.eqv]
    rw [eqvI22 x y, show PyData.eqvAll (xs.map numG) (ys.map numG) = decide (xs = ys) from eqvG xs ys, Bool.eq_iff_iff]
    simp
theorem dpI22 {H : Hp} : ∀ ns : List Int, DpAll K H (ns.map V.int) (ns.map PyData.int)
  | [] => .nil
  | n :: ns => .cons (.int n) (dpI22 ns)
theorem dpG {H : Hp} : ∀ {ys : List V} {gs : List (List Int)}, Trs H ys gs → DpAll K H ys (gs.map numG)
  | [], [], _ => .nil
  | [], _ :: _, h => by have := h.len; simp at this
  | _ :: _, [], h => by have := h.len; simp at this
  | y :: ys, r :: gs, h => by
    obtain ⟨a, u, rfl, e1, e2⟩ := h.get (i := 0) (y := y) rfl
    have e3 : r = u := Option.some.inj e1
    subst e3
    exact .cons (.tup (SqT.of e2) (dpI22 r)) (dpG ⟨by have := h.len; simpa using this, fun {i y} e => h.get (i := i + 1) e⟩)
theorem shG (gs : List (List Int)) : SeqAt.shaped (.tuple (gs.map numG)) = true := by
  have al : ∀ hss : List (List Int), PyData.canLayAll0 (hss.map numG) = true ∧ PyData.depthAll (hss.map numG) ≤ 1 := fun hss => by
    induction hss with
    | nil => simp [PyData.canLayAll0, PyData.depthAll]
    | cons g hss ih =>
      have h1 := dep_ints g
      simp only [List.map_cons, PyData.canLayAll0, PyData.depthAll, numG, PyData.canLay0, PyData.depth, lay_ints g, ih.1]
      exact ⟨rfl, by have := ih.2; unfold numG at this; omega⟩
  obtain ⟨a, b⟩ := al gs
  show (PyData.canLay0 (.tuple (gs.map numG)) && decide (PyData.depth (.tuple (gs.map numG)) ≤ 64)) = true
  rw [Bool.and_eq_true]
  exact ⟨by simp only [PyData.canLay0]; exact a, decide_eq_true (by simp only [PyData.depth]; omega)⟩
def tabD (p : Int) (m : Nat) (d : PyData) : Bool := isSqD p (m : Nat) d && symB m (gridOf d)
def spIsTab : Sp := fun vs H Q _ => ∃ (p : Int) (m : Nat) (y : V) (d : PyData), vs = [.int p, .int (m : Nat), y] ∧ m ≤ 10 ∧ Dq H y d ∧ Few2 d ∧ ∀ H', Same H H' → Q (.bl (tabD p m d)) H'
theorem ok_is_table (T : Tx K mg A) : FnOk P w K mg base CX0 5 A.f_is_table A.d_is_table ["p", "many", "thing"] spIsTab := by
  have G_is_square : FnOk P w K mg base CX0 4 A.f_is_square A.d_is_square ["p", "many", "thing"] spSquare := ok_is_square T
  refine T.d_is_table.F.ok sc_is_table (fun vs H Q E h => ?_) (fun cdv A' outer s H vs Q E hr h => ?_)
  · obtain ⟨p, m, y, d, rfl, _⟩ := h
    rfl
  · obtain ⟨p, m, y, d, rfl, m10, hd, few, q⟩ := h
    refine ⟨_, (pss_one (ps_ret (pe_and (pe_call G_is_square hr (by rfl) T.d_is_square.g T.d_is_square.F.kp T.d_is_square.b .nil pass0 (pa_cons (pv 0) (pa_cons (pv 1) (pa_cons (pv 2) pa_nil)))) (pe_one (pe_cmpR (op_eqD hr.units) (pv 2) (Tz.pe_TZn rfl (by rfl) T.b_tuple (by rfl) T.b_zip (pv 2)) (nomark _)))))), ?_⟩
    refine ⟨.int p, rfl, .int (m : Nat), rfl, y, rfl, p, (m : Nat), y, d, rfl, hd, few, fun H1 s1 => ?_⟩
    refine ⟨_, rfl, ?_⟩
    cases sq : isSqD p (m : Nat) d with
    | false =>
      have q' := q H1 s1
      unfold tabD at q'
      rw [sq, Bool.false_and] at q'
      exact q'
    | true =>
      obtain ⟨a, ys, rfl, ea, tr, gl, gok⟩ := sq_at hd sq
      have q2 : ∀ H', Same H H' → Q (.bl (symB m (gridOf d))) H' := fun H' s' => by
        have q' := q H' s'
        unfold tabD at q'
        rw [sq, Bool.true_and] at q'
        exact q'
      generalize gridOf d = gs at tr gl gok q2
      obtain ⟨as, ey, al, ag⟩ := trs_refs (tr.same s1)
      have ea1 := s1 _ _ ea
      rw [ey] at ea1
      show tOp (rEqD K) (tVar 2) (Tz.tTZn K (tVar 2)) _ _ _
      have szl : sizeLine = 16777216 := by decide
      have xsl : (gs.map fun r => r.map V.int).length = as.length := by rw [List.length_map, al]
      refine ⟨.ref a, rfl, .ref a, rfl, a, as, .t, gs.map fun r => r.map V.int, m, rfl, .inl (SqT.of ea1), ?_, fun j b xs e1 e2 => ?_, xsl, fun xs hx => ?_, by omega, by omega, fun S ts H2 Z hz hZ => ?_⟩
      · cases as with
        | nil =>
          rw [← gl, ← al]
          exact .inr rfl
        | cons _ _ => exact .inl (by simp)
      · rw [List.getElem?_map] at e2
        obtain ⟨g, eg, rfl⟩ := Option.map_eq_some_iff.mp e2
        exact SqT.of (ag j b g e1 eg)
      · obtain ⟨g, hg, rfl⟩ := List.mem_map.mp hx
        rw [List.length_map, (gok g hg).1]
      have s2 : Same H1 (upd H2 Z (.tup (ts.map V.ref))) := fun c o e => by
        have e2 := hz.same _ _ e
        rw [upd_ne (ne_of_none e2 hZ)]
        exact e2
      have tr2 : Trs (upd H2 Z (.tup (ts.map V.ref))) (ts.map V.ref) (colsG m gs) := by
        refine ⟨by unfold colsG; rw [List.length_map, hz.len, List.length_map, List.length_range], fun {i y} ey' => ?_⟩
        rw [List.getElem?_map] at ey'
        obtain ⟨b, eb, rfl⟩ := Option.map_eq_some_iff.mp ey'
        have il : i < m := by
          have := (List.getElem?_eq_some_iff.mp eb).1
          rw [hz.len] at this
          exact this
        refine ⟨b, gs.map fun r => vec r i, rfl, by unfold colsG; rw [List.getElem?_map, List.getElem?_range il]; rfl, ?_⟩
        have e3 := hz.get i b eb
        rw [upd_ne (ne_of_none e3 hZ), e3]
        congr 2
        unfold Zn.colV
        rw [List.map_map, List.map_map]
        refine List.map_congr_left fun r hr => ?_
        show (r.map V.int).getD i .non = V.int (vec r i)
        have er : r[i]? = some (r[i]'(by rw [(gok r hr).1]; exact il)) := List.getElem?_eq_getElem _
        rw [List.getD_eq_getElem?_getD, List.getElem?_map, er, Lin.vec_some er]
        rfl
      have tr3 : Trs (upd H2 Z (.tup (ts.map V.ref))) (as.map V.ref) gs := by
        rw [← ey]
        exact (tr.same s1).same s2
      refine ⟨.tuple (gs.map numG), .tuple ((colsG m gs).map numG), .tup (SqT.of (s2 _ _ ea1)) (dpG tr3), .tup (SqT.of upd_same) (dpG tr2), shG _, shG _, ?_⟩
      have ee : PyData.eqv (.tuple (gs.map numG)) (.tuple ((colsG m gs).map numG)) = decide (gs = colsG m gs) := by
        simp only [PyData.eqv]
        exact eqvG _ _
      rw [ee, ← symB_eq gl]
      exact q2 _ (s1.trans s2)
def tgadD (p : Int) : PyData → Bool
  | .tuple [w, h, g] => wordB w "table" && (isTup h && (decide ((itemsOf h).length ≤ 10) && (areNumD 2 ((itemsOf h).length : Nat) h && tabD p (itemsOf h).length g)))
  | _ => false
theorem uwG {a c : Nat} (h : a + 64 < c) : a < c := by omega
def spTabG22 : Sp := fun vs H Q _ => ∃ (p : Int) (y : V) (a b c : PyData), vs = [.int p, y] ∧ Dq H y (.tuple [a, b, c]) ∧ Few b ∧ Few2 c ∧ ∀ H', Same H H' → Q (.bl (tgadD p (.tuple [a, b, c]))) H'
theorem ok_is_table_gadget (T : Tx K mg A) : FnOk P w K mg base CX0 6 A.f_is_table_gadget A.d_is_table_gadget ["p", "thing"] spTabG22 := by
  have G_is_hold : FnOk P w K mg base CX0 4 A.f_is_hold A.d_is_hold ["posts", "thing"] spIsHold := ok_is_hold T
  have G_is_table : FnOk P w K mg base CX0 5 A.f_is_table A.d_is_table ["p", "many", "thing"] spIsTab := ok_is_table T
  obtain ⟨tkP, h_POSTS⟩ := T.v_POSTS
  refine T.d_is_table_gadget.F.ok sc_is_table_gadget (fun vs H Q E h => ?_) (fun cdv A' outer s H vs Q E hr h => ?_)
  · obtain ⟨p, y, a, b, c, rfl, _⟩ := h
    rfl
  · obtain ⟨p, y, a, b, c, rfl, hd, fb, fc, q⟩ := h
    obtain ⟨x, xs, ds, rfl, ex, hds, e0⟩ := isTup_of hd rfl
    cases e0
    match xs, hds with
    | [xa, xb, xc], .cons ha (.cons hb (.cons hc .nil)) =>
      refine ⟨_, (pss_cons (ps_asg (pv 1) (pg_tup rfl (pgs_cons (pg_name (i := 2) sc_is_table_gadget.nd rfl (.inl rfl)) (pgs_cons (pg_name (i := 3) sc_is_table_gadget.nd rfl (.inl rfl)) (pgs_cons (pg_name (i := 4) sc_is_table_gadget.nd rfl (.inl rfl)) pgs_nil)))))
        (pss_cons (ps_if (PW.pt (pw_or (pt_cmpR (op_neS (uwG hr.units)) (pv 2) pe_str (nomark _)) (pw_or (pt_not (pt_val (pe_callB call_isi (by rfl) T.b_isinstance PyProof.Rows.boot_isinstance (pa_cons (pv 3) (pa_cons (pe_bltn (v := .ty "tuple") (by rfl) T.b_tuple PyProof.Rows.boot_tuple rfl) pa_nil))))) (pw_or1 (pt_cmpR op_gt (pe_callB call_len_seq (by rfl) T.b_len PySem.boot_len (pa_cons (pv 3) pa_nil)) (pe_glob (v := .int 10) (by rfl) h_POSTS ⟨_, rfl⟩) (nomark _))))))
        (pss_one (ps_ret pe_bl))
        pss_nil)
        (pss_one (ps_ret (pe_and (pe_call G_is_hold (hr.mono (by decide)) (by rfl) T.d_is_hold.g T.d_is_hold.F.kp T.d_is_hold.b .nil pass0 (pa_cons (pe_callB call_len_seq (by rfl) T.b_len PySem.boot_len (pa_cons (pv 3) pa_nil)) (pa_cons (pv 3) pa_nil))) (pe_one (pe_call G_is_table hr (by rfl) T.d_is_table.g T.d_is_table.F.kp T.d_is_table.b .nil pass0 (pa_cons (pv 0) (pa_cons (pe_callB call_len_seq (by rfl) T.b_len PySem.boot_len (pa_cons (pv 3) pa_nil)) (pa_cons (pv 4) pa_nil)))))))))), ?_⟩
      refine ⟨.ref x, rfl, x, _, rfl, SqT.of ex, rfl, xa, [xb, xc], rfl, xb, [xc], rfl, xc, [], rfl, rfl, ?_⟩
      refine ⟨xa, rfl, a, _, ha, rfl, _, rfl, ite2 (fun e => ?_) (fun e => ?_)⟩
      · have q' := q H (Same.refl _)
        have e1 : tgadD p (.tuple [a, b, c]) = false := by
          show (wordB a "table" && _) = false
          cases h : wordB a "table" with
          | false => rfl
          | true => rw [h] at e; cases e
        rw [e1] at q'
        exact q'
      have w1 : wordB a "table" = true := by
        cases h : wordB a "table" with
        | true => rfl
        | false => rw [h] at e; exact absurd rfl e
      have ep : tgadD p (.tuple [a, b, c]) = (isTup b && (decide ((itemsOf b).length ≤ 10) && (areNumD 2 ((itemsOf b).length : Nat) b && tabD p (itemsOf b).length c))) := by
        show (wordB a "table" && _) = _
        rw [w1, Bool.true_and]
      rw [ep] at q
      obtain ⟨t, ⟨ty, ht⟩, _, et⟩ := hb.ty (K := K)
      refine ⟨xb, rfl, xb, _, _, _, _, rfl, .ty "tuple", ty, isi_of "tuple" ht (by simp), _, rfl, ite2 (fun e => ?_) (fun e => ?_)⟩
      · have e1 : isTup b = false := by
          rw [← et]
          simpa using e
        have q' := q H (Same.refl _)
        rw [e1, Bool.false_and] at q'
        exact q'
      have e1 : isTup b = true := by
        rw [← et]
        simpa using e
      obtain ⟨y, ys, es, rfl, ey, hes, rfl⟩ := isTup_of hb e1
      have yl := hes.length
      have il : (itemsOf (.tuple es)).length = es.length := rfl
      rw [e1, Bool.true_and, il] at q
      refine ⟨.ref y, rfl, y, _, rfl, .inr (SqT.of ey), (ys.length : Nat), 10, rfl, rfl, _, rfl, ite2 (fun e2 => ?_) (fun e2 => ?_)⟩
      · have h := of_decide_eq_true e2
        have q' := q H (Same.refl _)
        rw [decide_eq_false (by omega), Bool.false_and] at q'
        exact q'
      have l10 : es.length ≤ 10 := by
        have : ¬ ((10 : Int) < (ys.length : Nat)) := fun w => e2 (decide_eq_true w)
        omega
      rw [decide_eq_true l10, Bool.true_and] at q
      refine ⟨.ref y, rfl, y, _, rfl, .inr (SqT.of ey), .ref y, rfl, ?_⟩
      rw [yl]
      refine ⟨es.length, .ref y, .tuple es, rfl, hb, fb, fun H1 s1 => ?_⟩
      refine ⟨_, rfl, ?_⟩
      cases hn : areNumD 2 (es.length : Nat) (.tuple es) with
      | false =>
        have q' := q H1 s1
        rw [hn, Bool.false_and] at q'
        exact q'
      | true =>
        refine ⟨.int p, rfl, .ref y, rfl, y, _, rfl, .inr (SqT.of (s1 _ _ ey)), xc, rfl, ?_⟩
        rw [yl]
        refine ⟨p, es.length, xc, c, rfl, l10, hc.same s1, fc, fun H2 s2 => ?_⟩
        have q' := q H2 (s1.trans s2)
        rw [hn, Bool.true_and] at q'
        exact q'
def gadD (p : Int) : PyData → Bool
  | .tuple [a, b, c] => tgadD p (.tuple [a, b, c])
  | .tuple [w, n] => if wordB w "spring" || wordB w "lever" then isNumD p n else (wordB w "knot" || wordB w "ring") && (isInt n && (decide (2 ≤ intOf n) && decide (intOf n ≤ 10)))
  | _ => false
theorem gad_no {p : Int} {ds : List PyData} (h2 : ds.length ≠ 2) (h3 : ds.length ≠ 3) : gadD p (.tuple ds) = false := by
  match ds, h2, h3 with
  | [], _, _ => rfl
  | [_], _, _ => rfl
  | [_, _], z, _ => exact absurd rfl z
  | [_, _, _], _, z => exact absurd rfl z
  | _ :: _ :: _ :: _ :: _, _, _ => rfl
def spGadD : Sp := fun vs H Q _ => ∃ (p : Int) (y : V) (d : PyData), vs = [.int p, y] ∧ Dq H y d ∧ (∀ ds, d = .tuple ds → ∀ e ∈ ds, Few2 e) ∧ ∀ H', Same H H' → Q (.bl (gadD p d)) H'
theorem ok_is_gadget (T : Tx K mg A) : FnOk P w K mg base CX0 7 A.f_is_gadget A.d_is_gadget ["p", "thing"] spGadD := by
  have G_is_table_gadget : FnOk P w K mg base CX0 6 A.f_is_table_gadget A.d_is_table_gadget ["p", "thing"] spTabG22 := ok_is_table_gadget T
  have G_is_round : FnOk P w K mg base CX0 2 A.f_is_round A.d_is_round ["p", "thing"] spNum := ok_is_round T
  have G_is_whole : FnOk P w K mg base CX0 1 A.f_is_whole A.d_is_whole ["thing"] spWhole := ok_is_whole T
  obtain ⟨tkP, h_POSTS⟩ := T.v_POSTS
  refine T.d_is_gadget.F.ok sc_is_gadget (fun vs H Q E h => ?_) (fun cdv A' outer s H vs Q E hr h => ?_)
  · obtain ⟨p, y, d, rfl, _⟩ := h
    rfl
  · obtain ⟨p, y, d, rfl, hd, few, q⟩ := h
    obtain ⟨t, ⟨ty, ht⟩, _, et⟩ := hd.ty (K := K)
    refine ⟨_, (pss_cons (ps_if (pt_not (pt_val (pe_callB call_isi (by rfl) T.b_isinstance PyProof.Rows.boot_isinstance (pa_cons (pv 1) (pa_cons (pe_bltn (v := .ty "tuple") (by rfl) T.b_tuple PyProof.Rows.boot_tuple rfl) pa_nil)))))
        (pss_one (ps_ret pe_bl))
        pss_nil)
        (pss_cons (ps_if (pt_cmpR op_eq (pe_callB call_len_seq (by rfl) T.b_len PySem.boot_len (pa_cons (pv 1) pa_nil)) pe_int (nomark _))
        (pss_one (ps_ret (pe_call G_is_table_gadget hr (by rfl) T.d_is_table_gadget.g T.d_is_table_gadget.F.kp T.d_is_table_gadget.b .nil pass0 (pa_cons (pv 0) (pa_cons (pv 1) pa_nil)))))
        pss_nil)
        (pss_cons (ps_if (pt_cmpR op_ne (pe_callB call_len_seq (by rfl) T.b_len PySem.boot_len (pa_cons (pv 1) pa_nil)) pe_int (nomark _))
        (pss_one (ps_ret pe_bl))
        pss_nil)
        (pss_cons (ps_asg (pv 1) (pg_tup rfl (pgs_cons (pg_name (i := 2) sc_is_gadget.nd rfl (.inl rfl)) (pgs_cons (pg_name (i := 3) sc_is_gadget.nd rfl (.inl rfl)) pgs_nil))))
        (pss_cons (ps_if (PW.pt (pw_or (pt_cmpR (op_eqS (uwG hr.units)) (pv 2) pe_str (nomark _)) (pw_or1 (pt_cmpR (op_eqS (uwG hr.units)) (pv 2) pe_str (nomark _)))))
        (pss_one (ps_ret (pe_call G_is_round (hr.mono (by decide)) (by rfl) T.d_is_round.g T.d_is_round.F.kp T.d_is_round.b .nil pass0 (pa_cons (pv 0) (pa_cons (pv 3) pa_nil)))))
        pss_nil)
        (pss_one (ps_ret (pe_and (pe_or (pe_cmpR (op_eqS (uwG hr.units)) (pv 2) pe_str (nomark _)) (pe_one (pe_cmpR (op_eqS (uwG hr.units)) (pv 2) pe_str (nomark _)))) (pe_and (pe_call G_is_whole (hr.mono (by decide)) (by rfl) T.d_is_whole.g T.d_is_whole.F.kp T.d_is_whole.b .nil pass0 (pa_cons (pv 3) pa_nil)) (pe_one (pe_chain op_le op_le pe_int (pv 3) (pe_glob (v := .int 10) (by rfl) h_POSTS ⟨_, rfl⟩)))))))))))), ?_⟩
    refine ⟨y, rfl, y, _, _, _, _, rfl, .ty "tuple", ty, isi_of "tuple" ht (by simp), _, rfl, ite2 (fun e => ?_) (fun e => ?_)⟩
    · have e1 : isTup d = false := by
        rw [← et]
        simpa using e
      have q' := q H (Same.refl _)
      have er : gadD p d = false := by cases d <;> first | rfl | cases e1
      rw [er] at q'
      exact q'
    have e1 : isTup d = true := by
      rw [← et]
      simpa using e
    obtain ⟨x, xs, ds, rfl, ex, hds, rfl⟩ := isTup_of hd e1
    have xl := hds.length
    refine ⟨.ref x, rfl, x, _, rfl, .inr (SqT.of ex), rfl, _, rfl, ite2 (fun e3 => ?_) (fun e3 => ?_)⟩
    · have l3 : ds.length = 3 := by
        have := V.int.inj (of_decide_eq_true e3)
        omega
      match ds, l3 with
      | [a, b, c], _ =>
        refine ⟨.int p, rfl, .ref x, rfl, p, .ref x, a, b, c, rfl, hd, (few _ rfl b (by simp)).1, few _ rfl c (by simp), fun H1 s1 => ?_⟩
        exact q H1 s1
    have n3 : ds.length ≠ 3 := fun z => e3 (decide_eq_true (by rw [show xs.length = 3 by omega]; rfl))
    refine ⟨.ref x, rfl, x, _, rfl, .inr (SqT.of ex), rfl, _, rfl, ite2 (fun e2 => ?_) (fun e2 => ?_)⟩
    · have n2 : ds.length ≠ 2 := fun z => by
        rw [show xs.length = 2 by omega] at e2
        cases e2
      have q' := q H (Same.refl _)
      rw [gad_no n2 n3] at q'
      exact q'
    have l2 : ds.length = 2 := by
      have e5 : decide (V.int (xs.length : Nat) = V.int 2) = true := by
        cases h : decide (V.int (xs.length : Nat) = V.int 2) with
        | true => rfl
        | false => exact absurd (by rw [h]; rfl) e2
      have := V.int.inj (of_decide_eq_true e5)
      omega
    match ds, l2 with
    | [wd, n], _ =>
      match xs, xl, hds with
      | [xw, xn], _, .cons hw (.cons hn .nil) =>
        refine ⟨.ref x, rfl, x, _, rfl, SqT.of ex, rfl, xw, [xn], rfl, xn, [], rfl, rfl, ?_⟩
        have q' : ∀ H', Same H H' → Q (.bl (if wordB wd "spring" || wordB wd "lever" then isNumD p n else (wordB wd "knot" || wordB wd "ring") && (isInt n && (decide (2 ≤ intOf n) && decide (intOf n ≤ 10))))) H' := q
        cases h1 : wordB wd "spring" with
        | true =>
          rw [h1] at q'
          refine ⟨xw, rfl, wd, _, hw, rfl, _, rfl, ?_⟩
          rw [h1]
          exact ⟨.int p, rfl, xn, rfl, p, xn, n, rfl, hn, q' H (Same.refl _)⟩
        | false =>
          rw [h1] at q'
          refine ⟨xw, rfl, wd, _, hw, rfl, _, rfl, ?_⟩
          rw [h1]
          refine ⟨xw, rfl, wd, _, hw, rfl, _, rfl, ?_⟩
          cases h2 : wordB wd "lever" with
          | true =>
            rw [h2] at q'
            exact ⟨.int p, rfl, xn, rfl, p, xn, n, rfl, hn, q' H (Same.refl _)⟩
          | false =>
            rw [h2] at q'
            refine ⟨xw, rfl, wd, _, hw, rfl, _, rfl, ?_⟩
            have rest : (wordB wd "knot" || wordB wd "ring") = true → tAndV (tCall spWhole [] E0 (tCons (tVar 3) tNil)) (tChain (rI0 fun i j => V.bl (decide (i ≤ j))) (rI0 fun i j => V.bl (decide (i ≤ j))) (tC (V.int 2)) (tVar 3) (tC (V.int 10))) [some (.int p), some (.ref x), some xw, some xn] H Q := fun hk => by
              rw [hk] at q'
              refine ⟨xn, rfl, xn, n, rfl, hn, _, rfl, ?_⟩
              cases hi : isInt n with
              | false =>
                have q2 := q' H (Same.refl _)
                rw [hi] at q2
                exact q2
              | true =>
                obtain ⟨z, rfl, rfl⟩ := isInt_of hn hi
                have q2 : Q (.bl (decide (2 ≤ z) && decide (z ≤ 10))) H := q' H (Same.refl _)
                refine ⟨.int z, rfl, 2, z, rfl, rfl, _, rfl, ite2 (fun c1 => ?_) (fun c1 => ?_)⟩
                · rw [show decide (2 ≤ z) = true from c1, Bool.true_and] at q2
                  exact ⟨z, 10, rfl, rfl, q2⟩
                · rw [show decide (2 ≤ z) = false from Bool.eq_false_iff.mpr c1, Bool.false_and] at q2
                  exact q2
            cases h3 : wordB wd "knot" with
            | true =>
              rw [h3] at rest
              exact ⟨true, rfl, rest rfl⟩
            | false =>
              rw [h3] at rest q'
              refine ⟨xw, rfl, wd, _, hw, rfl, _, rfl, ?_⟩
              cases h4 : wordB wd "ring" with
              | true =>
                rw [h4] at rest
                exact rest rfl
              | false =>
                rw [h4] at q'
                exact q' H (Same.refl _)
-- CUT
/-! ### the law's own judge of gadgets -/
def fromD (lo hi : Int) (d : PyData) : Bool := isInt d && (decide (lo ≤ intOf d) && decide (intOf d ≤ hi))
def areFromD (m : Int) (hi : Int) : PyData → Bool
  | .tuple ds => decide ((ds.length : Int) = m) && ds.all (fromD 0 hi)
  | _ => false
theorem from_num {p : Int} {d : PyData} : fromD 0 (p - 1) d = isNumD p d := by
  cases d with
  | int i =>
    show (true && (decide (0 ≤ i) && decide (i ≤ p - 1))) = (decide (0 ≤ i) && decide (i < p))
    rw [Bool.true_and, show decide (i ≤ p - 1) = decide (i < p) from decide_eq_decide.mpr (by omega)]
  | _ => rfl
theorem areFrom_num {m p : Int} {d : PyData} : areFromD m (p - 1) d = areNumD p m d := by
  cases d with
  | tuple ds =>
    show (decide ((ds.length : Int) = m) && ds.all (fromD 0 (p - 1))) = (decide ((ds.length : Int) = m) && ds.all (isNumD p))
    rw [show (fromD 0 (p - 1)) = isNumD p from funext fun d => from_num]
  | _ => rfl
def spFrom : Sp := fun vs H Q _ => ∃ (x : V) (d : PyData) (lo hi : Int), vs = [x, .int lo, .int hi] ∧ Dq H x d ∧ Q (.bl (fromD lo hi d)) H
theorem ok__law_is_from (T : Tx K mg A) : FnOk P w K mg base CX0 1 A.f__law_is_from A.d__law_is_from ["_law_thing", "_law_low", "_law_high"] spFrom := by
  refine T.d__law_is_from.F.ok sc__law_is_from (fun vs H Q E h => ?_) (fun cdv A' outer s H vs Q E hr h => ?_)
  · obtain ⟨x, d, lo, hi, rfl, _⟩ := h
    rfl
  · obtain ⟨x, d, lo, hi, rfl, hd, q⟩ := h
    obtain ⟨t, ⟨ty, ht⟩, e, _⟩ := hd.ty (K := K)
    refine ⟨_, (pss_one (ps_ret (pe_and (pe_callB call_isi (by rfl) T.b_isinstance PyProof.Rows.boot_isinstance (pa_cons (pv 0) (pa_cons (pe_bltn (v := .ty "int") (by rfl) T.b_int PyProof.Rows.boot_int rfl) pa_nil))) (pe_and (pe_not (pe_callB call_isi (by rfl) T.b_isinstance PyProof.Rows.boot_isinstance (pa_cons (pv 0) (pa_cons (pe_bltn (v := .ty "bool") (by rfl) T.b_bool PyProof.Rows.boot_bool rfl) pa_nil)))) (pe_one (pe_chain op_le op_le (pv 1) (pv 0) (pv 2))))))), ?_⟩
    refine ⟨x, rfl, x, _, _, _, _, rfl, .ty "int", ty, isi_of "int" ht (.inl rfl), _, rfl, ite2 (fun e1 => ?_) (fun e1 => ?_)⟩
    · refine ⟨x, rfl, x, _, _, _, _, rfl, .ty "bool", ty, isi_of "bool" ht (.inr (.inl rfl)), _, rfl, ?_⟩
      rw [e1, Bool.true_and] at e
      refine ⟨_, rfl, ?_⟩
      rw [e]
      cases hi' : isInt d with
      | false =>
        have q' := q
        unfold fromD at q'
        rw [hi', Bool.false_and] at q'
        exact q'
      | true =>
        obtain ⟨z, rfl, rfl⟩ := isInt_of hd hi'
        have q2 : Q (.bl (decide (lo ≤ z) && decide (z ≤ hi))) H := q
        refine ⟨.int lo, rfl, .int z, rfl, lo, z, rfl, rfl, _, rfl, ite2 (fun c1 => ?_) (fun c1 => ?_)⟩
        · rw [show decide (lo ≤ z) = true from c1, Bool.true_and] at q2
          exact ⟨.int hi, rfl, z, hi, rfl, rfl, q2⟩
        · rw [show decide (lo ≤ z) = false from Bool.eq_false_iff.mpr c1, Bool.false_and] at q2
          exact q2
    · have e2 : isB t "int" = false := Bool.eq_false_iff.mpr e1
      rw [e2, Bool.false_and] at e
      have q' := q
      unfold fromD at q'
      rw [← e, Bool.false_and] at q'
      exact q'
def spAreFrom : Sp := fun vs H Q _ => ∃ (x : V) (d : PyData) (m hi : Int), vs = [x, .int m, .int hi] ∧ Dq H x d ∧ Few d ∧ ∀ H', Same H H' → Q (.bl (areFromD m hi d)) H'
theorem ok__law_are_from (T : Tx K mg A) : FnOk P w K mg base CX0 2 A.f__law_are_from A.d__law_are_from ["_law_thing", "_law_many", "_law_high"] spAreFrom := by
  have G__law_is_from : FnOk P w K mg base CX0 1 A.f__law_is_from A.d__law_is_from ["_law_thing", "_law_low", "_law_high"] spFrom := ok__law_is_from T
  refine T.d__law_are_from.F.ok sc__law_are_from (fun vs H Q E h => ?_) (fun cdv A outer s H vs Q E hr h => ?_)
  · obtain ⟨x, d, m, hi, rfl, _⟩ := h
    rfl
  · obtain ⟨x, d, m, hi, rfl, th, hl, q⟩ := h
    obtain ⟨t, ⟨ty, ht⟩, _, et⟩ := th.ty (K := K)
    refine ⟨_, (pss_one (ps_ret (pe_and (pe_callB call_isi (by rfl) T.b_isinstance PyProof.Rows.boot_isinstance (pa_cons (pv 0) (pa_cons (pe_bltn (v := .ty "tuple") (by rfl) T.b_tuple PyProof.Rows.boot_tuple rfl) pa_nil))) (pe_and (pe_cmpR op_eq (pe_callB call_len_seq (by rfl) T.b_len PySem.boot_len (pa_cons (pv 0) pa_nil)) (pv 1) (nomark _)) (pe_one (pe_callB (cr_all rfl) (by rfl) T.b_all PyProof.Rows.boot_all (pa_cons (pe_lc (own := [("_law_one", 3)]) rfl sc__law_are_from.nd (pi_tup (pv 0)) (blkOk_by (N := N__law_are_from) (sc := defScope s__law_are_from) (by decide +kernel)) (fun _ _ _ _ _ => (pg_name (i := 3) sc__law_are_from.nd rfl (.inl rfl))) (fun _ _ _ _ _ => pts_nil) (fun _ _ _ _ _ => (pe_call G__law_is_from hr (by rfl) T.d__law_is_from.g T.d__law_is_from.F.kp T.d__law_is_from.b .nil pass0 (pa_cons (pv 3) (pa_cons pe_int (pa_cons (pv 2) pa_nil)))))) pa_nil))))))), ?_⟩
    refine ⟨x, rfl, x, _, _, _, _, rfl, .ty "tuple", ty, isi_of "tuple" ht (by simp), _, rfl, ite2 (fun e => ?_) (fun e => ?_)⟩
    · rw [et] at e
      obtain ⟨a, xs, ds, rfl, ha, hds, rfl⟩ := isTup_of th e
      have hl' := hl ds rfl
      have hxl := hds.length
      refine ⟨.ref a, rfl, a, xs, rfl, .inr (SqT.of ha), .int m, rfl, rfl, _, rfl, ite2 (fun e => ?_) (fun e => ?_)⟩
      · have e2 : (ds.length : Int) = m := by
          rw [← hds.length]
          exact V.int.inj (of_decide_eq_true e)
        refine ⟨.ref a, rfl, a, rfl, ⟨_, SqT.of ha⟩, fun D hD => lc_tup (xs := xs) (fun i H' => Same H H' ∧ H' D = some (.lst (((ds.take i).map (fromD 0 hi)).map V.bl))) ⟨same_upd hD, upd_same⟩ (fun i H' _ h => .inl (.inl (h.1 _ _ ha))) ?_ ?_⟩
        · rintro i y H' hi' ⟨s1, hDs⟩
          obtain ⟨dy, ey, hy⟩ := hds.get hi'
          refine ⟨rfl, y, rfl, .int hi, rfl, y, dy, 0, hi, rfl, hy.same s1, _, hDs, ?_, same_put s1 hD, ?_⟩
          · rw [List.length_map, List.length_map, List.length_take]
            have e : sizeLine = 16777216 := by decide
            omega
          · rw [upd_same, List.take_add_one, ey, List.map_append, List.map_append]
            rfl
        · rintro H' ⟨s1, hDs⟩
          refine ⟨D, _, rfl, SqL.of hDs, ?_⟩
          have e3 : ((ds.take xs.length).map (fromD 0 hi)).all id = ds.all (fromD 0 hi) := by
            rw [hxl, List.take_length, List.all_map]
            rfl
          have e4 : areFromD m hi (.tuple ds) = ds.all (fromD 0 hi) := by
            show (decide ((ds.length : Int) = m) && ds.all (fromD 0 hi)) = _
            rw [decide_eq_true e2]
            rfl
          have q' := q H' s1
          rw [e4, ← e3] at q'
          exact q'
      · have e2 : ¬ ((ds.length : Int) = m) := fun z => e (decide_eq_true (by rw [hds.length, z]))
        have e4 : areFromD m hi (.tuple ds) = false := by
          show (decide ((ds.length : Int) = m) && ds.all (fromD 0 hi)) = _
          rw [decide_eq_false e2]
          rfl
        have q' := q H (Same.refl _)
        rw [e4] at q'
        exact q'
    · rw [et] at e
      have q' := q H (Same.refl _)
      have e4 : areFromD m hi d = false := by cases d <;> first | rfl | exact absurd rfl e
      rw [e4] at q'
      exact q'
theorem shN (g : List Int) : SeqAt.shaped (numG g) = true := by
  have h1 := dep_ints g
  show (PyData.canLay0 (.tuple (g.map PyData.int)) && decide (PyData.depth (.tuple (g.map PyData.int)) ≤ 64)) = true
  rw [Bool.and_eq_true]
  exact ⟨by simp only [PyData.canLay0]; exact lay_ints g, decide_eq_true (by simp only [PyData.depth]; omega)⟩
def hgD (p : Int) (h g : PyData) : Bool := isTup h && (decide ((itemsOf h).length ≤ 10) && (areNumD 2 ((itemsOf h).length : Nat) h && tabD p (itemsOf h).length g))
theorem ux22 {a b c : Nat} (h : a + 80 < c) (e : b ≤ a + 16) : b + 64 < c := by omega
def spLTab22 : Sp := fun vs H Q _ => ∃ (p : Int) (x y : V) (h g : PyData), vs = [.int p, x, y] ∧ 1 < p ∧ p ≤ 13 ∧ Dq H x h ∧ Dq H y g ∧ Few h ∧ Few2 g ∧ ∀ H', Same H H' → Q (.bl (hgD p h g)) H'
set_option maxHeartbeats 1000000 in
theorem ok__law_is_table22 (T : Tx K mg A) : FnOk P w K mg base CX0 3 A.f__law_is_table A.d__law_is_table ["_law_p", "_law_sides", "_law_thing"] spLTab22 := by
  have G__law_are_from : FnOk P w K mg base CX0 2 A.f__law_are_from A.d__law_are_from ["_law_thing", "_law_many", "_law_high"] spAreFrom := ok__law_are_from T
  refine T.d__law_is_table.F.ok sc__law_is_table (fun vs H Q E h => ?_) (fun cdv A outer s H vs Q E hr h => ?_)
  · obtain ⟨p, x, y, h, g, rfl, _⟩ := h
    rfl
  · obtain ⟨p, x, y, h, g, rfl, p1, p13, hx, hy, fh, fg, q⟩ := h
    have szl : sizeLine = 16777216 := by decide
    obtain ⟨t, ⟨ty, ht⟩, _, et⟩ := hx.ty (K := K)
    refine ⟨_, (pss_cons (ps_if (PW.pt (pw_or (pt_not (pt_val (pe_callB call_isi (by rfl) T.b_isinstance PyProof.Rows.boot_isinstance (pa_cons (pv 1) (pa_cons (pe_bltn (v := .ty "tuple") (by rfl) T.b_tuple PyProof.Rows.boot_tuple rfl) pa_nil))))) (pw_or (pt_cmpR op_gt (pe_callB call_len_seq (by rfl) T.b_len PySem.boot_len (pa_cons (pv 1) pa_nil)) pe_int (nomark _)) (pw_or1 (pt_not (pt_val (pe_call G__law_are_from hr (by rfl) T.d__law_are_from.g T.d__law_are_from.F.kp T.d__law_are_from.b .nil pass0 (pa_cons (pv 1) (pa_cons (pe_callB call_len_seq (by rfl) T.b_len PySem.boot_len (pa_cons (pv 1) pa_nil)) (pa_cons pe_int pa_nil))))))))))
        (pss_one (ps_ret pe_bl))
        pss_nil)
        (pss_cons (ps_set (i := 3) sc__law_is_table.nd rfl (.inr rfl) (pe_callB call_len_seq (by rfl) T.b_len PySem.boot_len (pa_cons (pv 1) pa_nil)))
        (pss_cons (ps_if (PW.pt (pw_or (pt_not (pt_val (pe_callB call_isi (by rfl) T.b_isinstance PyProof.Rows.boot_isinstance (pa_cons (pv 2) (pa_cons (pe_bltn (v := .ty "tuple") (by rfl) T.b_tuple PyProof.Rows.boot_tuple rfl) pa_nil))))) (pw_or1 (pt_cmpR op_ne (pe_callB call_len_seq (by rfl) T.b_len PySem.boot_len (pa_cons (pv 2) pa_nil)) (pv 3) (nomark _)))))
        (pss_one (ps_ret pe_bl))
        pss_nil)
        (pss_cons (ps_if (pt_not (pt_val (pe_callB (cr_all rfl) (by rfl) T.b_all PyProof.Rows.boot_all (pa_cons (pe_lc (own := [("_law_row", 5)]) rfl sc__law_is_table.nd (pi_tup (pv 2)) (blkOk_by (N := N__law_is_table) (sc := defScope s__law_is_table) (by decide +kernel)) (fun _ _ _ _ _ => (pg_name (i := 5) sc__law_is_table.nd rfl (.inl rfl))) (fun _ _ _ _ _ => pts_nil) (fun _ _ _ _ _ => (pe_call G__law_are_from hr (by rfl) T.d__law_are_from.g T.d__law_are_from.F.kp T.d__law_are_from.b .nil pass0 (pa_cons (pv 5) (pa_cons (pv 3) (pa_cons (pe_op op_sub (pv 0) pe_int) pa_nil)))))) pa_nil))))
        (pss_one (ps_ret pe_bl))
        pss_nil)
        (pss_one (ps_ret (pe_cmpR (op_eqL0 (ru80 hr)) (pe_lc (own := [("_law_k", 4)]) rfl sc__law_is_table.nd (pi_range1 (by rfl) T.b_range (pa_cons (pv 3) pa_nil)) (blkOk_by (N := N__law_is_table) (sc := defScope s__law_is_table) (by decide +kernel)) (fun _ _ _ _ _ => (pg_name (i := 4) sc__law_is_table.nd rfl (.inr rfl))) (fun _ _ _ _ _ => (pts_one (pt_cmpR (show OpR _ _ (rNeD K) from op_neD (ux22 (ru80 hr) (by first | exact Nat.le_add_right _ 16 | exact Nat.le_add_right _ 15 | exact Nat.le_add_right _ 14 | exact Nat.le_add_right _ 13))) (pe_callTy (show CallR _ _ (rTupOf K) from call_tuple_of) (by rfl) T.b_tuple PyProof.Rows.boot_tuple (pa_cons (pe_lc (own := [("_law_row", 5)]) rfl sc__law_is_table.nd (show PI _ _ _ (iTup K (tVar 2)) from pi_tup (pv 2)) (blkOk_by (N := N__law_is_table) (by kernel_rfl)) (fun _ _ _ _ _ => (pg_name (i := 5) sc__law_is_table.nd rfl (.inl rfl))) (fun _ _ _ _ _ => pts_nil) (fun _ _ _ _ _ => (pe_ix (show IxR _ (rIxT K) from ix_tup) (pv 5) (pv 4) (fun _ _ => rfl)))) pa_nil)) (pe_ix (show IxR _ (rIxT K) from ix_tup) (pv 2) (pv 4) (fun _ _ => rfl)) (nomark _)))) (fun _ _ _ _ _ => (pv 4))) (pe_lst pa_nil) (nomark _)))))))), ?_⟩
    refine ⟨x, rfl, x, _, _, _, _, rfl, .ty "tuple", ty, isi_of "tuple" ht (by simp), _, rfl, ite2 (fun e => ?_) (fun e => ?_)⟩
    · have e1 : isTup h = false := by
        rw [← et]
        simpa using e
      have q' := q H (Same.refl _)
      unfold hgD at q'
      rw [e1, Bool.false_and] at q'
      exact q'
    have e1 : isTup h = true := by
      rw [← et]
      simpa using e
    obtain ⟨a, xs, es, rfl, ea, hes, rfl⟩ := isTup_of hx e1
    have xl := hes.length
    have q1 : ∀ H', Same H H' → Q (.bl (decide (es.length ≤ 10) && (areNumD 2 (es.length : Nat) (.tuple es) && tabD p es.length g))) H' := q
    refine ⟨.ref a, rfl, a, _, rfl, .inr (SqT.of ea), (xs.length : Nat), 10, rfl, rfl, _, rfl, ite2 (fun e2 => ?_) (fun e2 => ?_)⟩
    · have h := of_decide_eq_true e2
      have q' := q1 H (Same.refl _)
      rw [decide_eq_false (by omega), Bool.false_and] at q'
      exact q'
    have l10 : es.length ≤ 10 := by
      have : ¬ ((10 : Int) < (xs.length : Nat)) := fun w => e2 (decide_eq_true w)
      omega
    rw [decide_eq_true l10, Bool.true_and] at q1
    refine ⟨.ref a, rfl, .ref a, rfl, a, _, rfl, .inr (SqT.of ea), .ref a, .tuple es, (xs.length : Nat), 1, rfl, hx, fh, fun H1 s1 => ?_⟩
    have e3 : areFromD (xs.length : Nat) 1 (.tuple es) = areNumD 2 (es.length : Nat) (.tuple es) := by
      rw [xl]
      exact areFrom_num (p := 2)
    rw [e3]
    refine ⟨_, rfl, ?_⟩
    cases hn : areNumD 2 (es.length : Nat) (.tuple es) with
    | false =>
      have q' := q1 H1 s1
      rw [hn, Bool.false_and] at q'
      exact q'
    | true =>
      rw [hn] at q1
      have q2 : ∀ H', Same H H' → Q (.bl (tabD p es.length g)) H' := q1
      refine ⟨.ref a, rfl, a, _, rfl, .inr (SqT.of (s1 _ _ ea)), ?_⟩
      rw [xl]
      generalize es.length = m at *
      simp only [gName, List.set_cons_succ, List.set_cons_zero]
      have hy1 := hy.same s1
      obtain ⟨t2, ⟨ty2, ht2⟩, _, et2⟩ := hy1.ty (K := K)
      refine ⟨y, rfl, y, _, _, _, _, rfl, .ty "tuple", ty2, isi_of "tuple" ht2 (by simp), _, rfl, ite2 (fun e => ?_) (fun e => ?_)⟩
      · have e1 : isTup g = false := by
          rw [← et2]
          simpa using e
        have q' := q2 H1 s1
        unfold tabD at q'
        rw [isSq_false e1, Bool.false_and] at q'
        exact q'
      have e1 : isTup g = true := by
        rw [← et2]
        simpa using e
      obtain ⟨b, ys, ds, rfl, eb, hds, rfl⟩ := isTup_of hy1 e1
      have yl := hds.length
      have l0 := fg.1 ds rfl
      have bad : (ds.length = m → ds.all (areNumD p (m : Nat)) = false) → tabD p m (.tuple ds) = false := fun h => by
        show ((decide ((ds.length : Int) = (m : Nat)) && ds.all (areNumD p (m : Nat))) && _) = false
        by_cases l : ds.length = m
        · rw [h l, Bool.and_false, Bool.false_and]
        · rw [decide_eq_false (by omega), Bool.false_and, Bool.false_and]
      refine ⟨.ref b, rfl, b, _, rfl, .inr (SqT.of eb), .int (m : Nat), rfl, rfl, _, rfl, ite2 (fun e2 => ?_) (fun e2 => ?_)⟩
      · have l : ds.length ≠ m := fun z => by
          rw [show ys.length = m by omega] at e2
          simp at e2
        have q' := q2 H1 s1
        rw [bad fun z => absurd z l] at q'
        exact q'
      have l : ds.length = m := by
        have e4 : decide (V.int (ys.length : Nat) = V.int (m : Nat)) = true := by
          cases h : decide (V.int (ys.length : Nat) = V.int (m : Nat)) with
          | true => rfl
          | false => exact absurd (by rw [h]; rfl) e2
        have := V.int.inj (of_decide_eq_true e4)
        omega
      refine ⟨.ref b, rfl, b, rfl, ⟨_, SqT.of eb⟩, fun D hD => lc_it (walk_tup (xs := ys)) (fun i H' => Same H1 H' ∧ H' D = some (.lst (((ds.take i).map (areNumD p (m : Nat))).map V.bl))) ⟨same_upd hD, upd_same⟩ (fun i H' _ h => SqT.of (h.1 _ _ eb)) ?_ ?_⟩
      · rintro i z H2 H2' hi ⟨s2, eD⟩ ⟨rfl, hz⟩
        obtain ⟨dy, ey, hdy⟩ := hds.get hz
        refine ⟨rfl, z, rfl, .int (m : Nat), rfl, .int p, rfl, p, 1, rfl, rfl, z, dy, (m : Nat), p - 1, rfl, hdy.same s2, fg.in_ (List.mem_of_getElem? ey), fun H3 s3 => ?_⟩
        rw [areFrom_num]
        refine ⟨_, s3 _ _ eD, by rw [List.length_map, List.length_map, List.length_take]; omega, same_put (s2.trans s3) hD, ?_⟩
        rw [upd_same, take_snoc ey, List.map_append, List.map_append]
        rfl
      rintro H2 ⟨s2, eD⟩
      rw [yl, List.take_length] at eD
      refine ⟨D, _, rfl, SqL.of eD, _, rfl, ?_⟩
      have e3 : ((ds.map (areNumD p (m : Nat))).all id) = ds.all (areNumD p (m : Nat)) := by
        rw [List.all_map]
        rfl
      rw [e3]
      have s12 := s1.trans s2
      cases al : ds.all (areNumD p (m : Nat)) with
      | false =>
        have q' := q2 H2 s12
        rw [bad fun _ => al] at q'
        exact q'
      | true =>
        have sq : isSqD p (m : Nat) (.tuple ds) = true := by
          show (decide ((ds.length : Int) = (m : Nat)) && ds.all (areNumD p (m : Nat))) = true
          rw [al, decide_eq_true (by omega)]
          rfl
        obtain ⟨b', ys', e', eb', tr, gl, gok⟩ := sq_at hy1 sq
        cases e'
        rw [eb] at eb'
        cases eb'
        have q3 : ∀ H', Same H H' → Q (.bl (symB m (gridOf (.tuple ds)))) H' := fun H' s' => by
          have q' := q2 H' s'
          unfold tabD at q'
          rw [sq, Bool.true_and] at q'
          exact q'
        generalize gridOf (.tuple ds) = gs at tr gl gok q3
        have eb2 := s2 _ _ eb
        have tr2 := tr.same s2
        refine ⟨.int (m : Nat), rfl, m, rfl, by omega, by omega, fun D2 hD2 => lc_range (fun i H' => Same H2 H' ∧ ∃ zs, H' D2 = some (.lst zs) ∧ zs.length ≤ i ∧ zs.isEmpty = ((List.range m).take i).all fun k => decide ((gs.map fun r => vec r k) = gs.getD k [])) ⟨same_upd hD2, [], upd_same, Nat.le_refl _, rfl⟩ ?_ ?_⟩
        · rintro k H3 hk ⟨s3, zs, eD2, zl, ze⟩
          rw [Int.toNat_natCast] at hk
          have e0 : (0 + (k : Nat) : Int) = (k : Nat) := by omega
          rw [e0]
          have vg : ∀ r : List Int, r.length = m → r[k]? = some (vec r k) := fun r hr => by
            have er : r[k]? = some (r[k]'(by omega)) := List.getElem?_eq_getElem _
            rw [Lin.vec_some er]
            exact er
          refine ⟨rfl, .ref b, rfl, b, rfl, ⟨_, SqT.of (s3 _ _ eb2)⟩, fun D3 hD3 => lc_it (walk_tup (xs := ys)) (fun j H' => Same H3 H' ∧ H' D3 = some (.lst (((gs.map fun r => vec r k).take j).map V.int))) ⟨same_upd hD3, upd_same⟩ (fun j H' _ h => SqT.of ((s3.trans h.1) _ _ eb2)) ?_ ?_⟩
          · rintro j z H4 H4' hj ⟨s4, eD3⟩ ⟨rfl, hz⟩
            obtain ⟨e, r, rfl, er, he⟩ := tr2.get hz
            obtain ⟨rl, rg⟩ := gok r (List.mem_of_getElem? er)
            have ev : (r.map V.int)[k]? = some (.int (vec r k)) := by rw [List.getElem?_map, vg r rl]; rfl
            have ez : (gs.map fun r => vec r k)[j]? = some (vec r k) := by rw [List.getElem?_map, er]; rfl
            refine ⟨rfl, .ref e, rfl, .int (k : Nat), rfl, e, _, _, _, rfl, rfl, SqT.of ((s3.trans s4) _ _ he), atI_nat ev, _, eD3, ?_, same_put s4 hD3, ?_⟩
            · rw [List.length_map, List.length_take, List.length_map]
              omega
            · rw [upd_same, take_snoc ez, List.map_append]
              rfl
          · rintro H4 ⟨s4, eD3⟩
            rw [List.take_of_length_le (by rw [List.length_map]; omega)] at eD3
            have ek : ys[k]? = some (ys[k]'(by omega)) := List.getElem?_eq_getElem (by omega)
            obtain ⟨e, r, e1, er, he⟩ := tr2.get ek
            rw [e1] at ek
            obtain ⟨rl, rg⟩ := gok r (List.mem_of_getElem? er)
            have s34 := s3.trans s4
            refine ⟨D3, _, rfl, .inl ⟨SqL.of eD3, fun t3 ht3 => ?_⟩⟩
            have s5 := same_upd (o := .tup ((gs.map fun r => vec r k).map V.int)) ht3
            refine ⟨.ref b, rfl, .int (k : Nat), rfl, b, _, _, .ref e, rfl, rfl, SqT.of (s5 _ _ (s34 _ _ eb2)), atI_nat ek, ?_⟩
            generalize hcs : (gs.map fun r => vec r k) = cs at s5 eD3
            refine ⟨numG cs, numG r, .tup (SqT.of upd_same) (dpI22 _), .tup (SqT.of (s5 _ _ (s34 _ _ he))) (dpI22 _), shN _, shN _, ?_⟩
            have z : PyData.eqv (numG cs) (numG r) = decide (cs = r) := by
              simp only [numG, PyData.eqv]
              exact eqvI22 _ _
            rw [z]
            have ern : (List.range m)[k]? = some k := List.getElem?_range hk
            have eg : gs.getD k [] = r := by rw [List.getD_eq_getElem?_getD, er]; rfl
            have st : (((List.range m).take (k + 1)).all fun k => decide ((gs.map fun r => vec r k) = gs.getD k [])) = (((List.range m).take k).all (fun k => decide ((gs.map fun r => vec r k) = gs.getD k [])) && decide (cs = r)) := by
              rw [all_snoc ern, hcs, eg]
            have s45 := s34.trans s5
            have eD4 := (s4.trans s5) _ _ eD2
            cases ec : decide (cs = r) with
            | true => exact ⟨_, rfl, s45, zs, eD4, by omega, by rw [st, ec, Bool.and_true]; exact ze⟩
            | false => exact ⟨_, rfl, .int (k : Nat), rfl, zs, eD4, by omega, same_put s45 hD2, _, upd_same, by rw [List.length_append]; show zs.length + 1 ≤ _; omega, by rw [st, ec, Bool.and_false]; cases zs <;> rfl⟩
        · rintro H3 ⟨s3, zs, eD2, zl, ze⟩
          rw [Int.toNat_natCast, List.take_of_length_le (by rw [List.length_range]; exact Nat.le_refl _)] at ze
          refine ⟨Nat.zero_le _, fun e1 he1 => ?_⟩
          refine ⟨D2, e1, _, rfl, rfl, SqL.of (same_upd he1 _ _ eD2), SqL.of upd_same, ?_⟩
          have q'' := q3 _ (s12.trans (s3.trans (same_upd (o := .lst []) he1)))
          unfold symB at q''
          rw [← ze] at q''
          exact q''
/-! what the law asks -/
theorem Dq.tyS22 {K : PySem.W.Frag} {H : Hp} {x : V} {d : PyData} (h : Dq H x d) : ∃ t, TyB1 K H x t ∧ isB t "str" = (match d with | .str _ => true | _ => false) := by
  cases h with
  | non => exact ⟨"NoneType", ⟨.base .non, by simp⟩, (by show isB "NoneType" "str" = false; decide +kernel)⟩
  | bl b => exact ⟨"bool", ⟨.base (.bl b), by simp⟩, (by show isB "bool" "str" = false; decide +kernel)⟩
  | int i => exact ⟨"int", ⟨.base (.int i), by simp⟩, (by show isB "int" "str" = false; decide +kernel)⟩
  | str z => exact ⟨"str", ⟨.base (.str z), by simp⟩, (by show isB "str" "str" = true; decide +kernel)⟩
  | lst e k => exact ⟨"list", ⟨.base (.lst e), by simp⟩, (by show isB "list" "str" = false; decide +kernel)⟩
  | tup e k => exact ⟨"tuple", ⟨.base (.tup e), by simp⟩, (by show isB "tuple" "str" = false; decide +kernel)⟩
  | dic e _ => exact ⟨"dict", ⟨.base (.dK e), by simp⟩, (by show isB "dict" "str" = false; decide +kernel)⟩
theorem gad_nostr {p : Int} {w : PyData} {ds : List PyData} (h : ∀ z, w ≠ .str z) : gadD p (.tuple (w :: ds)) = false := by
  have no : ∀ k : Str, wordB w k = false := fun k => by
    unfold wordB
    cases w <;> first | (simp [PyData.eqv]; done) | exact absurd rfl (h _)
  match ds with
  | [] => rfl
  | [n] =>
    show (if wordB w "spring" || wordB w "lever" then _ else (wordB w "knot" || wordB w "ring") && _) = false
    rw [no, no, no, no]
    rfl
  | [b, c] =>
    show (wordB w "table" && _) = false
    rw [no]
    rfl
  | _ :: _ :: _ :: _ => rfl
theorem word_same (z k : Str) : wordB (.str z) k = decide (V.str z = V.str k) := by
  show PyData.eqv (.str z) (.str k) = _
  rw [Bool.eq_iff_iff, decide_eq_true_iff]
  simp [PyData.eqv]
theorem in_two (z a b : Str) : inV (.str z) [.str a, .str b] = (decide (V.str z = V.str a) || decide (V.str z = V.str b)) := by
  unfold inV
  rw [Bool.eq_iff_iff]
  simp only [List.any_cons, List.any_nil, Bool.or_false, Bool.or_eq_true, decide_eq_true_iff]
  constructor
  · rintro (h | h)
    · exact .inl (congrArg V.str (eq_of_beq (show (a == z) = true from h)).symm)
    · exact .inr (congrArg V.str (eq_of_beq (show (b == z) = true from h)).symm)
  · rintro (h | h)
    · cases h
      exact .inl (show (z == z) = true from beq_self_eq_true z)
    · cases h
      exact .inr (show (z == z) = true from beq_self_eq_true z)
def spDue22 : Sp := fun vs H Q _ => ∃ (p : Int) (y : V) (d : PyData), vs = [.int p, y] ∧ 1 < p ∧ p ≤ 13 ∧ Dq H y d ∧ (∀ ds, d = .tuple ds → ∀ e ∈ ds, Few2 e) ∧ ∀ H', Same H H' → Q (.bl (gadD p d)) H'
theorem ok__law_due22 (T : Tx K mg A) : FnOk P w K mg base CX0 4 A.f__law_due A.d__law_due ["_law_p", "_law_thing"] spDue22 := by
  have G__law_is_from : FnOk P w K mg base CX0 1 A.f__law_is_from A.d__law_is_from ["_law_thing", "_law_low", "_law_high"] spFrom := ok__law_is_from T
  have G__law_is_table : FnOk P w K mg base CX0 3 A.f__law_is_table A.d__law_is_table ["_law_p", "_law_sides", "_law_thing"] spLTab22 := ok__law_is_table22 T
  refine T.d__law_due.F.ok sc__law_due (fun vs H Q E h => ?_) (fun cdv A' outer s H vs Q E hr h => ?_)
  · obtain ⟨p, y, d, rfl, _⟩ := h
    rfl
  · obtain ⟨p, y, d, rfl, p1, p13, hd, few, q⟩ := h
    obtain ⟨t, ⟨ty, ht⟩, _, et⟩ := hd.ty (K := K)
    refine ⟨_, (pss_cons (ps_if (PW.pt (pw_or (pt_not (pt_val (pe_callB call_isi (by rfl) T.b_isinstance PyProof.Rows.boot_isinstance (pa_cons (pv 1) (pa_cons (pe_bltn (v := .ty "tuple") (by rfl) T.b_tuple PyProof.Rows.boot_tuple rfl) pa_nil))))) (pw_or (pt_cmpR (op_eqT0 (ru80 hr)) (pv 1) (pe_tup pa_nil) (nomark _)) (pw_or1 (pt_not (pt_val (pe_callB call_isi (by rfl) T.b_isinstance PyProof.Rows.boot_isinstance (pa_cons (pe_ix ix_tup (pv 1) pe_int (fun _ _ => rfl)) (pa_cons (pe_bltn (v := .ty "str") (by rfl) T.b_str PyProof.Rows.boot_str rfl) pa_nil)))))))))
        (pss_one (ps_ret pe_bl))
        pss_nil)
        (pss_cons (ps_if (pt_cmpR op_eq (pe_ix ix_tup (pv 1) pe_int (fun _ _ => rfl)) pe_str (nomark _))
        (pss_one (ps_ret (pe_and (pe_cmpR op_eq (pe_callB call_len_seq (by rfl) T.b_len PySem.boot_len (pa_cons (pv 1) pa_nil)) pe_int (nomark _)) (pe_one (pe_call G__law_is_table hr (by rfl) T.d__law_is_table.g T.d__law_is_table.F.kp T.d__law_is_table.b .nil pass0 (pa_cons (pv 0) (pa_cons (pe_ix ix_tup (pv 1) pe_int (fun _ _ => rfl)) (pa_cons (pe_ix ix_tup (pv 1) pe_int (fun _ _ => rfl)) pa_nil))))))))
        pss_nil)
        (pss_cons (ps_if (pt_cmpR op_in_seq (pe_ix ix_tup (pv 1) pe_int (fun _ _ => rfl)) (pe_tup (pa_cons pe_str (pa_cons pe_str pa_nil))) (by rfl))
        (pss_one (ps_ret (pe_and (pe_cmpR op_eq (pe_callB call_len_seq (by rfl) T.b_len PySem.boot_len (pa_cons (pv 1) pa_nil)) pe_int (nomark _)) (pe_one (pe_call G__law_is_from (hr.mono (by decide)) (by rfl) T.d__law_is_from.g T.d__law_is_from.F.kp T.d__law_is_from.b .nil pass0 (pa_cons (pe_ix ix_tup (pv 1) pe_int (fun _ _ => rfl)) (pa_cons pe_int (pa_cons (pe_op op_sub (pv 0) pe_int) pa_nil))))))))
        pss_nil)
        (pss_one (ps_ret (pe_and (pe_cmpR op_in_seq (pe_ix ix_tup (pv 1) pe_int (fun _ _ => rfl)) (pe_tup (pa_cons pe_str (pa_cons pe_str pa_nil))) (by rfl)) (pe_and (pe_cmpR op_eq (pe_callB call_len_seq (by rfl) T.b_len PySem.boot_len (pa_cons (pv 1) pa_nil)) pe_int (nomark _)) (pe_one (pe_call G__law_is_from (hr.mono (by decide)) (by rfl) T.d__law_is_from.g T.d__law_is_from.F.kp T.d__law_is_from.b .nil pass0 (pa_cons (pe_ix ix_tup (pv 1) pe_int (fun _ _ => rfl)) (pa_cons pe_int (pa_cons pe_int pa_nil)))))))))))), ?_⟩
    refine ⟨y, rfl, y, _, _, _, _, rfl, .ty "tuple", ty, isi_of "tuple" ht (by simp), _, rfl, ite2 (fun e => ?_) (fun e => ?_)⟩
    · have e1 : isTup d = false := by
        rw [← et]
        simpa using e
      have q' := q H (Same.refl _)
      have er : gadD p d = false := by cases d <;> first | rfl | cases e1
      rw [er] at q'
      exact q'
    have e1 : isTup d = true := by
      rw [← et]
      simpa using e
    obtain ⟨x, xs, ds, rfl, ex, hds, rfl⟩ := isTup_of hd e1
    have xl := hds.length
    refine ⟨.ref x, rfl, Nat.zero_le _, fun e0 he0 => ?_⟩
    have s1 := same_upd (o := .tup []) he0
    refine ⟨x, e0, xs, rfl, rfl, SqT.of (s1 _ _ ex), SqT.of upd_same, _, rfl, ?_⟩
    generalize upd H e0 (.tup []) = H1 at s1 ⊢
    match xs, ds, xl, hds with
    | [], [], _, _ => exact q H1 s1
    | xw :: xs, w :: ds, xl, .cons hw hrest =>
      obtain ⟨tw, ⟨tyw, htw⟩, etw⟩ := (hw.same s1).tyS22 (K := K)
      have ex1 := s1 _ _ ex
      refine ⟨.ref x, rfl, x, _, 0, xw, rfl, rfl, SqT.of ex1, atI_zero, xw, _, _, _, _, rfl, .ty "str", tyw, isi_of "str" htw (by simp), _, rfl, ite2 (fun e4 => ?_) (fun e4 => ?_)⟩
      · have q' := q H1 s1
        rw [gad_nostr fun z e => by
          subst e
          rw [show isB tw "str" = true from etw] at e4
          cases e4] at q'
        exact q'
      have str : ∃ z, w = .str z ∧ xw = .str z := by
        have e5 : isB tw "str" = true := by simpa using e4
        rw [etw] at e5
        cases w <;> first | cases e5 | skip
        cases hw
        exact ⟨_, rfl, rfl⟩
      obtain ⟨z, rfl, rfl⟩ := str
      have il : (xs.length + 1 : Nat) = ds.length + 1 := xl
      refine ⟨.ref x, rfl, x, _, 0, .str z, rfl, rfl, SqT.of ex1, atI_zero, rfl, _, rfl, ite2 (fun c1 => ?_) (fun c1 => ?_)⟩
      · have w1 : wordB (.str z) "table" = true := by
          rw [word_same]
          exact c1
        refine ⟨.ref x, rfl, x, _, rfl, .inr (SqT.of ex1), rfl, _, rfl, ?_⟩
        rw [show (V.str z :: xs).length = ds.length + 1 from xl]
        cases l3 : decide (V.int ((ds.length + 1 : Nat) : Int) = V.int 3) with
        | false =>
          have n3 : ds.length ≠ 2 := fun e => by
            rw [e] at l3
            cases l3
          have er : gadD p (.tuple (.str z :: ds)) = false := by
            match ds, n3 with
            | [], _ => rfl
            | [n], _ =>
              have hz : z = "table" := by
                rw [word_same, decide_eq_true_iff] at w1
                exact V.str.inj w1
              subst hz
              rfl
            | [_, _], e => exact absurd rfl e
            | _ :: _ :: _ :: _, _ => rfl
          have q' := q H1 s1
          rw [er] at q'
          exact q'
        | true =>
          have n3 : ds.length = 2 := by
            have := V.int.inj (of_decide_eq_true l3)
            omega
          obtain ⟨b, c, rfl⟩ : ∃ b c, ds = [b, c] := by
            match ds, n3 with
            | [b, c], _ => exact ⟨b, c, rfl⟩
          obtain ⟨xb, xc, rfl, hb, hc⟩ : ∃ xb xc, xs = [xb, xc] ∧ Dq H xb b ∧ Dq H xc c := by
            match xs, hrest with
            | [xb, xc], .cons hb (.cons hc .nil) => exact ⟨xb, xc, rfl, hb, hc⟩
          have a1 : atI [V.str z, xb, xc] 1 = some xb := atI_nat (j := 1) rfl
          have a2 : atI [V.str z, xb, xc] 2 = some xc := atI_nat (j := 2) rfl
          refine ⟨.int p, rfl, .ref x, rfl, x, _, 1, xb, rfl, rfl, SqT.of ex1, a1, .ref x, rfl, x, _, 2, xc, rfl, rfl, SqT.of ex1, a2, p, xb, xc, b, c, rfl, p1, p13, hb.same s1, hc.same s1, (few _ rfl b (by simp)).1, few _ rfl c (by simp), fun H2 s2 => ?_⟩
          have q' := q H2 (s1.trans s2)
          have er : gadD p (.tuple [.str z, b, c]) = hgD p b c := by
            show (wordB (.str z) "table" && hgD p b c) = _
            rw [w1, Bool.true_and]
          rw [er] at q'
          exact q'
      have w1 : wordB (.str z) "table" = false := by
        rw [word_same]
        exact Bool.eq_false_iff.mpr c1
      refine ⟨.ref x, rfl, x, _, 0, .str z, rfl, rfl, SqT.of ex1, atI_zero, (by show 2 ≤ sizeLine; decide), fun t2 ht2 => ?_⟩
      have s2 := same_upd (o := .tup [.str "spring", .str "lever"]) ht2
      refine ⟨t2, _, rfl, .inr (SqT.of upd_same), rfl, rfl, ?_⟩
      rw [if_neg (by decide), in_two]
      have s12 := s1.trans s2
      generalize upd H1 t2 (.tup [.str "spring", .str "lever"]) = H2 at s2 s12 ⊢
      have ex2 := s2 _ _ ex1
      have two : ∀ (lo hi : Int) (R : V → Hp → Prop) (H3 : Hp), H3 x = some (.tup (V.str z :: xs)) → Same H H3 → (∀ n, ds = [n] → R (.bl (fromD lo hi n)) H3) → (ds.length ≠ 1 → R (.bl false) H3) → ∃ c, V.bl (decide (V.int ((V.str z :: xs).length : Nat) = V.int 2)) = V.bl c ∧ if c = true then (∃ n xn, ds = [n] ∧ xs = [xn] ∧ Dq H3 xn n ∧ R (.bl (fromD lo hi n)) H3) else R (.bl false) H3 := fun lo hi R H3 e3 s3 h1 h2 => by
        refine ⟨_, rfl, ?_⟩
        rw [show (V.str z :: xs).length = ds.length + 1 from xl]
        refine ite2 (fun c => ?_) (fun c => ?_)
        · have l1 : ds.length = 1 := by
            have := V.int.inj (of_decide_eq_true c)
            omega
          obtain ⟨n, rfl⟩ : ∃ n, ds = [n] := by
            match ds, l1 with
            | [n], _ => exact ⟨n, rfl⟩
          obtain ⟨xn, rfl, hn⟩ : ∃ xn, xs = [xn] ∧ Dq H xn n := by
            match xs, hrest with
            | [xn], .cons hn .nil => exact ⟨xn, rfl, hn⟩
          exact ⟨n, xn, rfl, rfl, hn.same s3, h1 n rfl⟩
        · refine h2 fun e => c (decide_eq_true ?_)
          rw [e]
          rfl
      have er : ds.length ≠ 1 → gadD p (.tuple (.str z :: ds)) = false := fun ne => by
        match ds, ne with
        | [], _ => rfl
        | [_], e => exact absurd rfl e
        | [b, c], _ =>
          show (wordB (.str z) "table" && _) = false
          rw [w1, Bool.false_and]
        | _ :: _ :: _ :: _, _ => rfl
      have one : ∀ n, gadD p (.tuple [.str z, n]) = if (decide (V.str z = V.str "spring") || decide (V.str z = V.str "lever")) = true then isNumD p n else (decide (V.str z = V.str "knot") || decide (V.str z = V.str "ring")) && fromD 2 10 n := fun n => by
        show (if (wordB (.str z) "spring" || wordB (.str z) "lever") = true then isNumD p n else (wordB (.str z) "knot" || wordB (.str z) "ring") && fromD 2 10 n) = _
        rw [word_same, word_same, word_same, word_same]
      refine ⟨_, rfl, ite2 (fun c2 => ?_) (fun c2 => ?_)⟩
      · refine ⟨.ref x, rfl, x, _, rfl, .inr (SqT.of ex2), rfl, ?_⟩
        obtain ⟨c, e, h⟩ := two 0 (p - 1) Q H2 ex2 s12 (fun n e => by
          subst e
          have q' := q H2 s12
          rw [one, if_pos c2, ← from_num] at q'
          exact q') fun ne => by
          have q' := q H2 s12
          rw [er ne] at q'
          exact q'
        refine ⟨c, e, ?_⟩
        cases c with
        | false => exact h
        | true =>
          obtain ⟨n, xn, rfl, rfl, hn, r⟩ := h
          exact ⟨.ref x, rfl, x, _, 1, xn, rfl, rfl, SqT.of ex2, atI_nat (j := 1) rfl, .int p, rfl, p, 1, rfl, rfl, xn, n, 0, p - 1, rfl, hn, r⟩
      · refine ⟨.ref x, rfl, x, _, 0, .str z, rfl, rfl, SqT.of ex2, atI_zero, (by show 2 ≤ sizeLine; decide), fun t3 ht3 => ?_⟩
        have s3 := same_upd (o := .tup [.str "knot", .str "ring"]) ht3
        refine ⟨t3, _, rfl, .inr (SqT.of upd_same), rfl, rfl, ?_⟩
        rw [if_neg (by decide), in_two]
        have s13 := s12.trans s3
        generalize upd H2 t3 (.tup [.str "knot", .str "ring"]) = H3 at s3 s13 ⊢
        have ex3 := s3 _ _ ex2
        refine ⟨_, rfl, ite2 (fun c3 => ?_) (fun c3 => ?_)⟩
        · refine ⟨.ref x, rfl, x, _, rfl, .inr (SqT.of ex3), rfl, ?_⟩
          obtain ⟨c, e, h⟩ := two 2 10 Q H3 ex3 s13 (fun n e => by
            subst e
            have q' := q H3 s13
            rw [one, if_neg c2, c3, Bool.true_and] at q'
            exact q') fun ne => by
            have q' := q H3 s13
            rw [er ne] at q'
            exact q'
          refine ⟨c, e, ?_⟩
          cases c with
          | false => exact h
          | true =>
            obtain ⟨n, xn, rfl, rfl, hn, r⟩ := h
            exact ⟨.ref x, rfl, x, _, 1, xn, rfl, rfl, SqT.of ex3, atI_nat (j := 1) rfl, xn, n, 2, 10, rfl, hn, r⟩
        · have q' := q H3 s13
          by_cases l1 : ds.length = 1
          · obtain ⟨n, rfl⟩ : ∃ n, ds = [n] := by
              match ds, l1 with
              | [n], _ => exact ⟨n, rfl⟩
            rw [one, if_neg c2, Bool.eq_false_iff.mpr c3, Bool.false_and] at q'
            exact q'
          · rw [er l1] at q'
            exact q'
-- CUT
/-! ### slices, tuples put together -/
theorem cat_read {H : Hp} {Q : VK} {a b : Addr} {xs ys : List V} (ha : H a = some (.tup xs)) (hb : H b = some (.tup ys)) (hl : xs.length + ys.length ≤ 1000) (q : ∀ t H', Same H H' → H' t = some (.tup (xs ++ ys)) → Q (.ref t) H') : rCatA K (.ref a) (.ref b) H Q := by
  refine ⟨a, b, xs, ys, rfl, rfl, SqT.of ha, SqT.of hb, Nat.le_of_lt (small hl), fun e => ?_, fun _ e => ?_, fun _ _ t ht => q t _ (same_upd ht) upd_same⟩
  · subst e
    exact q b H (Same.refl _) hb
  · subst e
    exact q a H (Same.refl _) (by rw [List.append_nil]; exact ha)
theorem sl_read {H : Hp} {Q : VK} {a : Addr} {xs : List V} {lo hi : Option Int} (ha : H a = some (.tup xs)) (q : ∀ t H', Same H H' → H' t = some (.tup (cutV xs lo hi)) → Q (.ref t) H') : rSlA K (.ref a) lo hi H Q := by
  refine ⟨a, xs, rfl, SqT.of ha, fun e => ?_, fun _ t ht => q t _ (same_upd ht) upd_same⟩
  refine q a H (Same.refl _) ?_
  unfold cutV
  rw [e.1, e.2]
  simpa using ha
theorem cut_to {xs : List V} {k : Nat} : cutV xs none (some (k : Int)) = xs.take k := by
  unfold cutV
  rw [HT.sIx_nat, HT.sIx_none]
  simp
theorem cut_from {xs : List V} {k : Nat} (h : k ≤ xs.length) : cutV xs (some (k : Int)) none = xs.drop k := by
  unfold cutV
  rw [HT.sIx_nat, HT.sIx_none, Nat.min_eq_left h]
  exact List.take_of_length_le (by rw [List.length_drop]; exact Nat.le_refl _)
theorem cut_one {xs : List V} {k : Nat} (h : k < xs.length) : cutV xs (some (k : Int)) (some ((k + 1 : Nat) : Int)) = [xs[k]] := by
  unfold cutV
  rw [HT.sIx_nat, HT.sIx_nat, Nat.min_eq_left (by omega), Nat.min_eq_left (by omega), List.drop_eq_getElem_cons h]
  have e : k + 1 - k = 1 := by omega
  rw [e]
  rfl
theorem Prs.take {H : Hp} {xs : List V} {r : Row} (h : Prs H xs r) (k : Nat) : Prs H (xs.take k) (r.take k) := by
  refine ⟨by rw [List.length_take, List.length_take, h.len], fun {i x} e => ?_⟩
  by_cases hi : i < k
  · rw [List.getElem?_take, if_pos hi] at e ⊢
    exact h.get e
  · rw [List.getElem?_take, if_neg hi] at e
    cases e
theorem Prs.drop {H : Hp} {xs : List V} {r : Row} (h : Prs H xs r) (k : Nat) : Prs H (xs.drop k) (r.drop k) := by
  refine ⟨by rw [List.length_drop, List.length_drop, h.len], fun {i x} e => ?_⟩
  rw [List.getElem?_drop] at e ⊢
  exact h.get e
theorem Prs.append {H : Hp} {xs ys : List V} {r s : Row} (h : Prs H xs r) (k : Prs H ys s) : Prs H (xs ++ ys) (r ++ s) := by
  refine ⟨by rw [List.length_append, List.length_append, h.len, k.len], fun {i x} e => ?_⟩
  by_cases hi : i < xs.length
  · rw [List.getElem?_append_left hi] at e
    rw [List.getElem?_append_left (by rw [← h.len]; exact hi)]
    exact h.get e
  · rw [List.getElem?_append_right (by omega)] at e
    rw [List.getElem?_append_right (by rw [← h.len]; omega), ← h.len]
    exact k.get e
theorem sl_any {H : Hp} {Q : VK} {a : Addr} {xs : List V} {lo hi : Option Int} (ha : H a = some (.tup xs)) (h : ∀ t H', Same H H' → H' t = some (.tup (cutV xs lo hi)) → Q (.ref t) H') : rSlA K (.ref a) lo hi H Q := by
  refine ⟨a, xs, rfl, SqT.of ha, fun ⟨e1, e2⟩ => h a H (.refl _) ?_, fun _ p hp => h p _ (same_upd hp) upd_same⟩
  rw [ha]
  unfold cutV
  rw [e1, e2, Nat.sub_zero, List.drop_zero, List.take_length]
theorem cat_any {H : Hp} {Q : VK} {a b : Addr} {xs ys : List V} (ha : H a = some (.tup xs)) (hb : H b = some (.tup ys)) (len : xs.length + ys.length ≤ 1000) (h : ∀ t H', Same H H' → H' t = some (.tup (xs ++ ys)) → Q (.ref t) H') : rCatA K (.ref a) (.ref b) H Q := by
  refine ⟨a, b, xs, ys, rfl, rfl, SqT.of ha, SqT.of hb, Nat.le_of_lt (small len), fun e => ?_, fun _ e => ?_, fun _ _ p hp => h p _ (same_upd hp) upd_same⟩
  · subst e
    exact h b H (.refl _) hb
  · subst e
    refine h a H (.refl _) ?_
    rw [List.append_nil]
    exact ha
theorem cut_fromG {xs : List V} {k : Nat} : cutV xs (some (k : Int)) none = xs.drop k := by
  by_cases h : k ≤ xs.length
  · exact cut_from h
  · unfold cutV
    rw [HT.sIx_nat, HT.sIx_none, Nat.min_eq_right (by omega), List.drop_of_length_le (by omega), List.drop_of_length_le (by omega)]
    simp
section
open PySem.Spec PyProof.Rows
variable {X : Cx}
def rNeT0 (K : PySem.W.Frag) : R2 := fun x y H Q => ∃ a b xs, x = .ref a ∧ y = .ref b ∧ SqT K H a xs ∧ SqT K H b [] ∧ Q (.bl (!xs.isEmpty)) H
theorem op_neT0 (hu : X.A.units + 64 < cLine) : OpR X (compareOp .NotEq) (rNeT0 X.K) := by
  intro pins s σ H x y v u Q I rx ry h
  obtain ⟨a, b, xs, rfl, rfl, ha, hb, q⟩ := h
  cases rx
  cases ry
  obtain ⟨its, r, ht, hz⟩ := I.tuple ha
  obtain ⟨its2, r2, ht2, _⟩ := I.tuple hb
  cases r2
  refine SeqAt.RcNeAt.tuples (e := fun _ => true) ht ht2 (by omega) (fun j h1 h2 => absurd h2 (by simp)) _ _ _ _ ⟨.bl (!xs.isEmpty), H, I, ?_, q⟩
  cases r with
  | nil => rfl
  | cons _ _ =>
    simp
    rfl
end
/-! ### one part spoilt, however deep -/
theorem odd_list {α : Type} {c : α → Prop} {xs : List α} (h : ∀ x ∈ xs, c x) {r : Int} (h0 : 0 ≤ r) (h1 : r < xs.length) : ∃ y, atI xs r = some y ∧ c y := by
  obtain ⟨j, rfl⟩ := Int.eq_ofNat_of_zero_le h0
  have hj : j < xs.length := by omega
  exact ⟨xs[j], atI_nat (List.getElem?_eq_getElem hj), h _ (List.getElem_mem hj)⟩
theorem uw {a c : Nat} (h : a + 80 < c) : a + 64 < c := by omega
def spSpoilt (m : Nat) : Sp := fun vs H Q _ => ∃ (N : Addr → Prop) (d g c : Addr) (k : Int) (x : V) (B n : Nat), vs = [.ref d, x] ∧ Dk d g c k H ∧ AlN N d g H ∧ k + 3 * m + 5 ≤ 1000000 ∧ TB N B n m H x ∧ n ≤ 100000 ∧ 10 ^ 40 ≤ B ∧ B < 10 ^ 41 ∧
  ∀ y H', TB N B (2 * n + 8) (m + 1) H' y → Dk d g c (k + 3 * m + 5) H' → Fr d g H H' → Q y H'
theorem two_ways5 {Pv G : Prop} (use : Pv → G) (tail : Pv) : G := use tail
theorem fork1 {α : Type} {c : α → Prop} {Pv : α → Prop} {G : Prop} (use : (∀ a, c a → Pv a) → G) (tail : ∀ a, c a → Pv a) : G := use tail
theorem cat_big {H : Hp} {Q : VK} {a b : Addr} {xs ys : List V} (ha : H a = some (.tup xs)) (hb : H b = some (.tup ys)) (len : xs.length + ys.length ≤ sizeLine) (h : ∀ t H', Same H H' → H' t = some (.tup (xs ++ ys)) → Q (.ref t) H') : rCatA K (.ref a) (.ref b) H Q := by
  refine ⟨a, b, xs, ys, rfl, rfl, SqT.of ha, SqT.of hb, len, fun e => ?_, fun _ e => ?_, fun _ _ p hp => h p _ (same_upd hp) upd_same⟩
  · subst e
    exact h b H (.refl _) hb
  · subst e
    refine h a H (.refl _) ?_
    rw [List.append_nil]
    exact ha
theorem fork2 {α β : Type} {c : α → β → Prop} {Pv : α → β → Prop} {G : Prop} (use : (∀ a b, c a b → Pv a b) → G) (tail : ∀ a b, c a b → Pv a b) : G := use tail
theorem cut_few22 {lo hi : Option Int} : (cutV xs lo hi).length ≤ xs.length := by
  unfold cutV
  rw [List.length_take, List.length_drop]
  omega
theorem spoilt_core (T : Tx K mg A) (m : Nat) (sp' : Sp) (G__law_spoilt : FnOk P w K mg base CX0 (m + 2) A.f__law_spoilt A.d__law_spoilt ["_law_deck_here", "_law_thing"] sp') (hs : ∀ e, m = e + 1 → ∀ vs H Q E, spSpoilt e vs H Q E → sp' vs H Q E) : FnOk P w K mg base CX0 (m + 3) A.f__law_spoilt A.d__law_spoilt ["_law_deck_here", "_law_thing"] (spSpoilt m) := by
  have G__law_next : FnOk P w K mg base CX0 1 A.f__law_next A.d__law_next ["_law_deck_here", "_law_many"] spNext := ok__law_next T
  have G__law_is_from : FnOk P w K mg base CX0 1 A.f__law_is_from A.d__law_is_from ["_law_thing", "_law_low", "_law_high"] spFrom := ok__law_is_from T
  refine T.d__law_spoilt.F.ok sc__law_spoilt (fun vs H Q E h => ?_) (fun cdv A' outer s H vs Q E hr h => ?_)
  · obtain ⟨N, d, g, c, k, x, B, n, rfl, _⟩ := h
    rfl
  · obtain ⟨N, d, g, c, k, x, B, n, rfl, D0, O0, hk, th, nn, b1, b2, q⟩ := h
    refine ⟨_, (pss_cons (ps_if (PW.pt (pw_and (pt_val (pe_callB call_isi (by rfl) T.b_isinstance PyProof.Rows.boot_isinstance (pa_cons (pv 1) (pa_cons (pe_bltn (v := .ty "tuple") (by rfl) T.b_tuple PyProof.Rows.boot_tuple rfl) pa_nil)))) (pw_and (pt_cmpR (op_neT0 (uw (ru80 hr))) (pv 1) (pe_tup pa_nil) (nomark _)) (pw_and1 (pt_cmpR op_gt (pe_call G__law_next (hr.mono (by omega)) (by rfl) T.d__law_next.g T.d__law_next.F.kp T.d__law_next.b .nil pass0 (pa_cons (pv 0) (pa_cons pe_int pa_nil))) pe_int (nomark _))))))
        (pss_cons (ps_set (i := 3) sc__law_spoilt.nd rfl (.inl rfl) (pe_call G__law_next (hr.mono (by omega)) (by rfl) T.d__law_next.g T.d__law_next.F.kp T.d__law_next.b .nil pass0 (pa_cons (pv 0) (pa_cons (pe_callB call_len_seq (by rfl) T.b_len PySem.boot_len (pa_cons (pv 1) pa_nil)) pa_nil))))
        (pss_one (ps_ret (pe_op op_catA (pe_op op_catA (pe_slice sl_tupA (pv 1) po_none (po_some (pv 3))) (pe_tup (pa_cons (pe_call G__law_spoilt (hr.mono (by omega)) (by rfl) T.d__law_spoilt.g T.d__law_spoilt.F.kp T.d__law_spoilt.b .nil pass0 (pa_cons (pv 0) (pa_cons (pe_ix ix_tup (pv 1) (pv 3) (fun _ _ => rfl)) pa_nil))) pa_nil))) (pe_slice sl_tupA (pv 1) (po_some (pe_op op_add (pv 3) pe_int)) po_none)))))
        pss_nil)
        (pss_cons (ps_set (i := 2) sc__law_spoilt.nd rfl (.inl rfl) (pe_lst (pa_cons pe_non (pa_cons pe_bl (pa_cons pe_bl (pa_cons pe_int (pa_cons pe_int (pa_cons (pe_un un_neg pe_int) (pa_cons pe_int (pa_cons (pe_op op_pow pe_int pe_int) (pa_cons pe_str (pa_cons pe_str (pa_cons pe_str (pa_cons pe_str (pa_cons (pe_tup pa_nil) (pa_cons (pe_lst pa_nil) (pa_cons pe_dnewK (pa_cons (pe_tup (pa_cons pe_int pa_nil)) (pa_cons (pe_tup (pa_cons (pv 1) pa_nil)) pa_nil)))))))))))))))))))
        (pss_cons (ps_if (pt_val (pe_callB call_isi (by rfl) T.b_isinstance PyProof.Rows.boot_isinstance (pa_cons (pv 1) (pa_cons (pe_bltn (v := .ty "tuple") (by rfl) T.b_tuple PyProof.Rows.boot_tuple rfl) pa_nil))))
        (pss_one (ps_set (i := 2) sc__law_spoilt.nd rfl (.inl rfl) (pe_op op_cat (pv 2) (pe_lst (pa_cons (pe_callTy call_list_of (by rfl) T.b_list PyProof.Rows.boot_list (pa_cons (pv 1) pa_nil)) (pa_cons (pe_slice sl_tupA (pv 1) (po_some pe_int) po_none) (pa_cons (pe_op op_catA (pv 1) (pe_slice sl_tupA (pv 1) po_none (po_some pe_int))) (pa_cons (pe_revT (pv 1)) (pa_cons (pe_op op_catA (pv 1) (pe_tup (pa_cons pe_int pa_nil))) pa_nil)))))))))
        pss_nil)
        (pss_cons (ps_if (pt_val (pe_call G__law_is_from (hr.mono (by omega)) (by rfl) T.d__law_is_from.g T.d__law_is_from.F.kp T.d__law_is_from.b .nil pass0 (pa_cons (pv 1) (pa_cons pe_int (pa_cons pe_int pa_nil)))))
        (pss_one (ps_set (i := 2) sc__law_spoilt.nd rfl (.inl rfl) (pe_op op_cat (pv 2) (pe_lst (pa_cons (pe_op op_add (pv 1) pe_int) (pa_cons (pe_op op_sub (pv 1) pe_int) (pa_cons (pe_cmpR op_eq (pv 1) pe_int (nomark _)) (pa_cons (pe_callTy call_str_int (by rfl) T.b_str PyProof.Rows.boot_str (pa_cons (pv 1) pa_nil)) pa_nil))))))))
        pss_nil)
        (pss_one (ps_ret (pe_ix ix_list (pv 2) (pe_call G__law_next (hr.mono (by omega)) (by rfl) T.d__law_next.g T.d__law_next.F.kp T.d__law_next.b .nil pass0 (pa_cons (pv 0) (pa_cons (pe_callB call_len_seq (by rfl) T.b_len PySem.boot_len (pa_cons (pv 2) pa_nil)) pa_nil))) (fun _ _ => rfl)))))))), ?_⟩
    obtain ⟨t, ⟨ty, ht⟩, alt, intf⟩ := th.ty K O0
    have big : sizeLine = 16777216 := by decide
    have D1' : Dk d g c (k + 1) H := D0.mono (by omega)
    have kk : k + 3 * (m : Int) + 5 ≤ 1000000 := hk
    apply fork1 (α := Hp) (c := fun h => Dk d g c (k + 1) h ∧ Fr d g H h)
    · intro key
      refine ⟨x, rfl, x, _, _, _, _, rfl, .ty "tuple", ty, isi_of "tuple" ht (by simp), _, rfl, ?_⟩
      rcases id alt with ⟨et, a, xs, m0, em, ex, ha, nd, ng, nN, txs⟩ | et
      · rw [et]
        have lx := txs.len
        rw [if_pos rfl]
        refine ⟨x, rfl, Nat.zero_le _, fun e0 he0 => ?_⟩
        have z0 := same_upd (o := .tup []) he0
        refine ⟨a, e0, xs, ex, rfl, SqT.of (z0 _ _ ha), SqT.of upd_same, _, rfl, ?_⟩
        have Da := D1'.same z0
        have Da0 := D0.same z0
        have fa : Fr d g H (upd H e0 (.tup [])) := .of_same z0
        generalize upd H e0 (.tup []) = Ha at Da Da0 fa ⊢
        refine ite2 (fun c1 => ?_) (fun _ => key Ha ⟨Da, fa⟩)
        refine ⟨.ref d, rfl, d, g, c, k, 5, rfl, by decide, by decide, Da0, by omega, fun r0 H1 _ _ D1 f1 => ?_⟩
        have f01 := fa.trans f1
        refine ⟨r0, 0, rfl, rfl, _, rfl, ite2 (fun _ => ?_) (fun _ => key _ ⟨D1, f01⟩)⟩
        clear key
        subst em ex
        have xpos : 0 < xs.length := by
          cases xs with
          | nil => cases c1
          | cons _ _ => exact Nat.succ_pos _
        have ha1 := f01 a _ nd ng ha
        refine ⟨.ref d, rfl, .ref a, rfl, a, xs, rfl, .inr (SqT.of ha1), d, g, c, _, (xs.length : Nat), rfl, by omega, by omega, D1, by omega, fun r H3 r0' r1 D3 f3 => ?_⟩
        obtain ⟨j, rfl⟩ := Int.eq_ofNat_of_zero_le r0'
        have jl : j < xs.length := by omega
        have f03 := f01.trans f3
        have ha3 := f03 a _ nd ng ha
        have txs3 := txs.fr O0 f03
        simp only [gName, List.set_cons_succ, List.set_cons_zero]
        obtain ⟨n1, n2, n3, nl, p1, p2, p3⟩ := txs3.three (List.getElem?_eq_getElem jl)
        refine ⟨.ref a, rfl, .int (j : Nat), rfl, (j : Nat), rfl, ?_⟩
        dsimp only [tNoPart]
        refine sl_any ha3 fun t1 H4 s4 e4 => ?_
        rw [cut_to] at e4
        have D4 := D3.same s4
        refine ⟨.ref d, rfl, .ref a, rfl, .int (j : Nat), rfl, a, xs, (j : Nat), xs[j], rfl, rfl, SqT.of (s4 _ _ ha3), atI_nat (List.getElem?_eq_getElem jl), ?_⟩
        refine hs m0 rfl _ _ _ _ ⟨N, d, g, c, _, xs[j], B, n2, rfl, D4, O0.fr D4 (f03.trans (.of_same s4)), by omega, p2.fr (O0.fr D3 f03) (.of_same s4), by omega, b1, b2, fun y H5 ty5 D5 f5 => ?_⟩
        refine ⟨(by show 1 ≤ sizeLine; decide), fun t2 h2 => ?_⟩
        have s6 := same_upd (o := .tup [y]) h2
        have e6 : upd H5 t2 (.tup [y]) t2 = some (.tup [y]) := upd_same
        have D6 := D5.same s6
        generalize upd H5 t2 (.tup [y]) = H6 at s6 e6 D6 ⊢
        have nt1 := D4.nt e4
        have e46 := s6 _ _ (f5 t1 _ nt1.1 nt1.2 e4)
        refine cat_big e46 e6 (by rw [List.length_take, big]; show _ + 1 ≤ _; omega) fun t3 H7 s7 e7 => ?_
        have ha7 := s7 _ _ (s6 _ _ (f5 a _ nd ng (s4 _ _ ha3)))
        refine ⟨.ref a, rfl, .int (j : Nat), rfl, _, 1, rfl, rfl, _, rfl, ?_⟩
        dsimp only [tNoPart]
        refine sl_any ha7 fun t4 H8 s8 e8 => ?_
        rw [show (((j : Nat) : Int) + 1) = ((j + 1 : Nat) : Int) by omega, cut_fromG] at e8
        refine cat_big (s8 _ _ e7) e8 (by rw [List.length_append, List.length_take, List.length_drop, big]; show _ + 1 + _ ≤ _; omega) fun t5 H9 s9 e9 => ?_
        have s69 := s6.trans (s7.trans (s8.trans s9))
        have D9 := D5.same s69
        have f39 : Fr d g H3 H9 := (Fr.of_same s4).trans (f5.trans (.of_same s69))
        have O3 := O0.fr D3 f03
        have O5 := O0.fr D5 (f03.trans ((Fr.of_same s4).trans f5))
        have all : TBs N B ((n1 + (2 * n2 + 8 + 1 + 0)) + n3) (m0 + 1) H9 (xs.take j ++ [y] ++ xs.drop (j + 1)) :=
          (((p1.fr O3 f39).mono (Nat.le_refl _) (Nat.le_refl _) (by omega)).append (.cons (ty5.fr O5 (.of_same s69)) .nil)).append ((p3.fr O3 f39).mono (Nat.le_refl _) (Nat.le_refl _) (by omega))
        refine q (.ref t5) H9 ?_ (D9.mono (by omega)) (f03.trans f39)
        exact (TB.tupOf e9 ((O0.fr D9 (f03.trans f39)).nt e9) all).mono (Nat.le_refl _) (by omega) (Nat.le_refl _)
      · rw [et]
        exact ite2 (fun z => (by cases z)) (fun _ => key H ⟨D1', .refl _ _ _⟩)
    · rintro H1 ⟨D1, f1⟩
      have th1 := th.fr O0 f1
      have O1 := O0.fr D1 f1
      clear D1'
      rw [if_neg (by decide)]
      refine ⟨1, rfl, 10, 40, rfl, rfl, ⟨by decide, by decide, by decide⟩, Nat.zero_le _, fun q1 h1 => ?_⟩
      have t1 : TB N B 1 1 _ (.ref q1) := (TB.newT (m := 0) O1 h1 (.nil (n := 0))).mono (Nat.le_refl _) (by decide) (Nat.le_refl _)
      have s1 := same_upd (o := .tup []) h1
      have D2 := D1.same s1
      generalize upd H1 q1 (.tup []) = H2 at t1 s1 D2 ⊢
      have O2 := O1.same s1
      refine ⟨Nat.zero_le _, fun q2 h2 => ?_⟩
      have t2 : TB N B 1 1 _ (.ref q2) := (TB.newL (m := 0) O2 h2 (.nil (n := 0))).mono (Nat.le_refl _) (by decide) (Nat.le_refl _)
      have s2 := same_upd (o := .lst []) h2
      have D3 := D2.same s2
      generalize upd H2 q2 (.lst []) = H3 at t2 s2 D3 ⊢
      have O3 := O2.same s2
      intro q3 h3
      have t3 : TB N B 1 1 _ (.ref q3) := TB.newD (m := 0) O3 h3
      have s3 := same_upd (o := .dK []) h3
      have D4 := D3.same s3
      generalize upd H3 q3 (.dK []) = H4 at t3 s3 D4 ⊢
      have O4 := O3.same s3
      refine ⟨(by show 1 ≤ sizeLine; decide), fun q4 h4 => ?_⟩
      have t4 : TB N B 1 1 _ (.ref q4) := (TB.newT (xs := [.int 0]) (m := 0) O4 h4 ((TBs.cons (n := 0) (.int (Nat.zero_le _)) (.nil (n := 0))))).mono (Nat.le_refl _) (by decide) (Nat.le_refl _)
      have s4 := same_upd (o := .tup [.int 0]) h4
      have D5 := D4.same s4
      generalize upd H4 q4 (.tup [.int 0]) = H5 at t4 s4 D5 ⊢
      have O5 := O4.same s4
      have s15 := s1.trans (s2.trans (s3.trans s4))
      refine ⟨x, rfl, (by show 1 ≤ sizeLine; decide), fun q5 h5 => ?_⟩
      have t5 : TB N B (n + 1 + 0) (m + 1) _ (.ref q5) := TB.newT (xs := [x]) O5 h5 (.cons (th1.fr O1 (.of_same s15)) .nil)
      have s5 := same_upd (o := .tup [x]) h5
      have D6 := D5.same s5
      generalize upd H5 q5 (.tup [x]) = H6 at t5 s5 D6 ⊢
      have O6 := O5.same s5
      refine ⟨(by show 17 ≤ sizeLine; decide), fun S hS => ?_⟩
      have s16 := s15.trans s5
      have all : ∀ z ∈ [V.non, .bl true, .bl false, .int 0, .int 1, .int (-1), .int 13, .int (10 ^ (40 : Int).toNat), .str ("" : Str), .str ("spring" : Str), .str ("knot" : Str), .str ("table" : Str), .ref q1, .ref q2, .ref q3, .ref q4, .ref q5], TB N B (2 * n + 8) (m + 1) H6 z := by
        intro z hz
        simp only [List.mem_cons, List.not_mem_nil, or_false] at hz
        rcases hz with rfl | rfl | rfl | rfl | rfl | rfl | rfl | rfl | rfl | rfl | rfl | rfl | rfl | rfl | rfl | rfl | rfl
        · exact .non
        · exact .bl
        · exact .bl
        · exact .int (Nat.zero_le _)
        · exact .int (Nat.le_trans (by decide) b1)
        · exact .int (Nat.le_trans (by decide) b1)
        · exact .int (Nat.le_trans (by decide) b1)
        · exact .int (Nat.le_trans (by decide) b1)
        · exact .str (by decide +kernel) (by show 0 ≤ _; omega)
        · exact .str (by decide +kernel) (Nat.le_trans (by decide : _ ≤ 8) (by omega))
        · exact .str (by decide +kernel) (Nat.le_trans (by decide : _ ≤ 8) (by omega))
        · exact .str (by decide +kernel) (Nat.le_trans (by decide : _ ≤ 8) (by omega))
        · exact (t1.fr O2 (.of_same (s2.trans (s3.trans (s4.trans s5))))).mono (Nat.le_refl _) (by omega) (by omega)
        · exact (t2.fr O3 (.of_same (s3.trans (s4.trans s5)))).mono (Nat.le_refl _) (by omega) (by omega)
        · exact (t3.fr O4 (.of_same (s4.trans s5))).mono (Nat.le_refl _) (by omega) (by omega)
        · exact (t4.fr O5 (.of_same s5)).mono (Nat.le_refl _) (by omega) (by omega)
        · exact t5.mono (Nat.le_refl _) (by omega) (Nat.le_refl _)
      have nS := D6.nd hS
      have sS := same_upd (o := .lst [V.non, .bl true, .bl false, .int 0, .int 1, .int (-1), .int 13, .int (10 ^ (40 : Int).toNat), .str ("" : Str), .str ("spring" : Str), .str ("knot" : Str), .str ("table" : Str), .ref q1, .ref q2, .ref q3, .ref q4, .ref q5]) hS
      have eS : upd H6 S (.lst [V.non, .bl true, .bl false, .int 0, .int 1, .int (-1), .int 13, .int (10 ^ (40 : Int).toNat), .str ("" : Str), .str ("spring" : Str), .str ("knot" : Str), .str ("table" : Str), .ref q1, .ref q2, .ref q3, .ref q4, .ref q5]) S = some (.lst [V.non, .bl true, .bl false, .int 0, .int 1, .int (-1), .int 13, .int (10 ^ (40 : Int).toNat), .str ("" : Str), .str ("spring" : Str), .str ("knot" : Str), .str ("table" : Str), .ref q1, .ref q2, .ref q3, .ref q4, .ref q5]) := upd_same
      have D7 := D6.same sS
      have th7 := th1.fr O1 (Fr.of_same (s16.trans sS))
      have all7 := fun z hz => (all z hz).fr (d := d) (g := g) O6 (Fr.of_same sS)
      have f7 := f1.trans (.of_same (s16.trans sS))
      generalize upd H6 S (.lst [V.non, .bl true, .bl false, .int 0, .int 1, .int (-1), .int 13, .int (10 ^ (40 : Int).toNat), .str ("" : Str), .str ("spring" : Str), .str ("knot" : Str), .str ("table" : Str), .ref q1, .ref q2, .ref q3, .ref q4, .ref q5]) = H7 at eS D7 all7 f7 th7 ⊢
      generalize hl0 : [V.non, .bl true, .bl false, .int 0, .int 1, .int (-1), .int 13, .int (10 ^ (40 : Int).toNat), .str ("" : Str), .str ("spring" : Str), .str ("knot" : Str), .str ("table" : Str), .ref q1, .ref q2, .ref q3, .ref q4, .ref q5] = os at eS all7
      have ol : os.length = 17 := by rw [← hl0]; rfl
      clear hl0 all t1 t2 t3 t4 t5
      simp only [gName, List.set_cons_succ, List.set_cons_zero]
      have fact : Dk d g c (k + 1) H7 ∧ Fr d g H H7 ∧ ∃ os, H7 S = some (.lst os) ∧ 0 < os.length ∧ os.length ≤ 17 ∧ ∀ z ∈ os, TB N B (2 * n + 8) (m + 1) H7 z := ⟨D7, f7, os, eS, by omega, by omega, all7⟩
      have nd1 : S ≠ d ∧ S ≠ g := ⟨nS.1, nS.2.1⟩
      have fact2 : (S ≠ d ∧ S ≠ g) ∧ Dk d g c (k + 1) H7 ∧ Fr d g H H7 ∧ ∃ os, H7 S = some (.lst os) ∧ 0 < os.length ∧ os.length ≤ 22 ∧ ∀ z ∈ os, TB N B (2 * n + 8) (m + 1) H7 z := ⟨nd1, D7, f7, os, eS, by omega, by omega, all7⟩
      obtain ⟨t7, ⟨ty7, ht7⟩, alt7, _⟩ := th7.ty K (O0.fr D7 f7)
      clear all7 f7
      apply fork2 (α := Addr) (β := Hp) (c := fun S' H' => (S' ≠ d ∧ S' ≠ g) ∧ Dk d g c (k + 1) H' ∧ Fr d g H H' ∧ ∃ os, H' S' = some (.lst os) ∧ 0 < os.length ∧ os.length ≤ 22 ∧ ∀ z ∈ os, TB N B (2 * n + 8) (m + 1) H' z)
      · intro key
        refine ⟨x, rfl, x, _, _, _, _, rfl, .ty "tuple", ty7, isi_of "tuple" ht7 (by simp), _, rfl, ?_⟩
        rcases id alt7 with ⟨et, a, xs, m0, em, ex, ha, nd, ng, nN, txs⟩ | et
        rotate_left
        · rw [et]
          rw [if_neg (by decide)]
          have k0 := key S H7 fact2
          refine Eq.mp ?_ k0
          rfl
        · rw [et, if_pos rfl]
          subst em ex
          obtain ⟨D7, f7, os, eS, o0, o1, all7⟩ := fact
          have lx := txs.len
          refine ⟨.ref S, rfl, .ref a, rfl, a, xs, rfl, .inr (SqT.of ha), fun l1 hl1 => ?_⟩
          have s1 := same_upd (o := .lst xs) hl1
          have O7 := O0.fr D7 f7
          have r1 := TB.newL O7 hl1 txs
          have D8 := D7.same s1
          have ha8 := s1 _ _ ha
          generalize upd H7 l1 (.lst xs) = H8 at s1 r1 D8 ha8 ⊢
          have O8 := O7.same s1
          refine ⟨.ref a, rfl, 1, rfl, ?_⟩
          dsimp only [tNoPart]
          refine sl_any ha8 fun t2 H9 s9 e9 => ?_
          have D9 := D8.same s9
          have ha9 := s9 _ _ ha8
          refine ⟨.ref a, rfl, .ref a, rfl, ?_⟩
          dsimp only [tNoPart]
          refine ⟨1, rfl, ?_⟩
          refine sl_any ha9 fun t3 H10 s10 e10 => ?_
          have c1 : (cutV xs none (some 1)).length ≤ xs.length := cut_few22
          have c2 : (cutV xs (some 1) none).length ≤ xs.length := cut_few22
          refine cat_big (s10 _ _ ha9) e10 (by rw [big]; omega) fun t4 H11 s11 e11 => ?_
          have s911 := s10.trans s11
          have D11 := D9.same s911
          have ha11 := s911 _ _ ha9
          refine ⟨.ref a, rfl, a, xs, rfl, SqT.of ha11, fun t5 h5 => ?_⟩
          have s12 := same_upd (o := .tup xs.reverse) h5
          have e12 : upd H11 t5 (.tup xs.reverse) t5 = some (.tup xs.reverse) := upd_same
          have D12 := D11.same s12
          have ha12 := s12 _ _ ha11
          generalize upd H11 t5 (.tup xs.reverse) = H12 at s12 e12 D12 ha12 ⊢
          refine ⟨.ref a, rfl, (by show 1 ≤ sizeLine; decide), fun t6 h6 => ?_⟩
          have s13 := same_upd (o := .tup [.int 0]) h6
          refine cat_big (s13 _ _ ha12) upd_same (by rw [big]; show _ + 1 ≤ _; omega) fun t7 H14 s14 e14 => ?_
          have s1214 := s13.trans s14
          have D14 := D12.same s1214
          refine ⟨(by show 5 ≤ sizeLine; decide), fun l8 h8 => ?_⟩
          have s15 := same_upd (o := .lst [.ref l1, .ref t2, .ref t4, .ref t5, .ref t7]) h8
          have e15 : upd H14 l8 (.lst [.ref l1, .ref t2, .ref t4, .ref t5, .ref t7]) l8 = some (.lst [.ref l1, .ref t2, .ref t4, .ref t5, .ref t7]) := upd_same
          have D15 := D14.same s15
          generalize upd H14 l8 (.lst [.ref l1, .ref t2, .ref t4, .ref t5, .ref t7]) = H15 at s15 e15 D15 ⊢
          have z815 : Same H8 H15 := s9.trans (s911.trans (s12.trans (s1214.trans s15)))
          have z715 := s1.trans z815
          have eS15 := z715 _ _ eS
          refine ⟨S, l8, os, [.ref l1, .ref t2, .ref t4, .ref t5, .ref t7], rfl, rfl, eS15, e15, (by rw [big]; show os.length + 5 ≤ _; omega), fun Z hZ => ?_⟩
          have s16 := same_upd (o := .lst (os ++ [.ref l1, .ref t2, .ref t4, .ref t5, .ref t7])) hZ
          have nZ := D15.nd hZ
          have eZ : upd H15 Z (.lst (os ++ [.ref l1, .ref t2, .ref t4, .ref t5, .ref t7])) Z = some (.lst (os ++ [.ref l1, .ref t2, .ref t4, .ref t5, .ref t7])) := upd_same
          have D16 := D15.same s16
          have z716 := z715.trans s16
          have z816 := z815.trans s16
          have z916 : Same H9 _ := (s911.trans (s12.trans (s1214.trans s15))).trans s16
          have z1116 : Same H11 _ := (s12.trans (s1214.trans s15)).trans s16
          have z1216 : Same H12 _ := (s1214.trans s15).trans s16
          have z1416 : Same H14 _ := s15.trans s16
          generalize upd H15 Z (.lst (os ++ [.ref l1, .ref t2, .ref t4, .ref t5, .ref t7])) = H16 at eZ D16 z716 z816 z916 z1116 z1216 z1416 ⊢
          simp only [gName, List.set_cons_succ, List.set_cons_zero]
          have tx := txs.fr O7 (Fr.of_same z716)
          have O16 := O7.same z716
          have more : ∀ z ∈ [V.ref l1, .ref t2, .ref t4, .ref t5, .ref t7], TB N B (2 * n + 8) (m0 + 1 + 1) H16 z := by
            intro z hz
            simp only [List.mem_cons, List.not_mem_nil, or_false] at hz
            rcases hz with rfl | rfl | rfl | rfl | rfl
            · exact (r1.fr O8 (.of_same z816)).mono (Nat.le_refl _) (by omega) (by omega)
            · have e := z916 _ _ e9
              exact (TB.tupOf e (O16.nt e) ((tx.drop _).take _)).mono (Nat.le_refl _) (by omega) (by omega)
            · have e := z1116 _ _ e11
              exact (TB.tupOf e (O16.nt e) (tx.append ((tx.drop _).take _))).mono (Nat.le_refl _) (by omega) (by omega)
            · have e := z1216 _ _ e12
              exact (TB.tupOf e (O16.nt e) tx.rev).mono (Nat.le_refl _) (by omega) (by omega)
            · have e := z1416 _ _ e14
              exact (TB.tupOf e (O16.nt e) (tx.append (.cons (n := 0) (.int (Nat.zero_le _)) (.nil (n := 0))))).mono (Nat.le_refl _) (by omega) (by omega)
          have fin := key Z H16 ⟨⟨nZ.1, nZ.2.1⟩, D16, f7.trans (.of_same z716), _, eZ, by rw [List.length_append]; omega, by rw [List.length_append]; show os.length + 5 ≤ 22; omega, fun z hz => (List.mem_append.mp hz).elim (fun h => (all7 z h).fr O7 (.of_same z716)) (more z)⟩
          exact fin
      · rintro S' H8 ⟨nS', D8, f8, os', eS', o1, o2, all8⟩
        have th8 := th.fr O0 f8
        obtain ⟨dd, hdd, gb⟩ := th8.dq
        refine ⟨x, rfl, x, dd, 0, 99, rfl, hdd, ?_⟩
        have fin : ∀ (S : Addr) (H9 : Hp) (os : List V) (R : VK), S ≠ d ∧ S ≠ g → Dk d g c (k + 1) H9 → H9 S = some (.lst os) → 0 < os.length → os.length ≤ 30 → (∀ z ∈ os, ∀ H10, Fr d g H9 H10 → Dk d g c (k + 2) H10 → R z H10) → ∀ H10 (r : Int), 0 ≤ r → r < os.length → Dk d g c (k + 1 + 1) H10 → Fr d g H9 H10 → ∃ z, atI os r = some z ∧ SqL K H10 S os ∧ R z H10 := fun S H9 os R nS D9 eS o1 o2 all H10 r r0 r1 D10 f10 => by
          obtain ⟨z, ez, hz⟩ := odd_list (c := fun z => z ∈ os) (fun z hz => hz) r0 r1
          exact ⟨z, ez, SqL.of (f10 _ _ nS.1 nS.2 eS), all z hz H10 f10 (D10.mono (by omega))⟩
        refine ⟨_, rfl, ?_⟩
        cases hf : fromD 0 99 dd with
        | false =>
          refine ⟨.ref S', rfl, .ref d, rfl, .ref S', rfl, S', os', rfl, .inl (SqL.of eS'), ?_⟩
          refine ⟨d, g, c, _, (os'.length : Nat), rfl, by omega, by omega, D8, by omega, fun r H10 r0 r1 D10 f10 => ?_⟩
          obtain ⟨z, ez, sq, hz⟩ := fin S' H8 os' Q nS' D8 eS' o1 (by omega) (fun z hz H10 f10 D10 => q z H10 ((all8 z hz).fr (O0.fr D8 f8) f10) (D10.mono (by omega)) (f8.trans f10)) H10 r r0 r1 D10 f10
          exact ⟨S', os', r, z, rfl, rfl, sq, ez, hz⟩
        | true =>
          have hi : isInt dd = true := by
            unfold fromD at hf
            rw [Bool.and_eq_true] at hf
            exact hf.1
          obtain ⟨i, rfl, rfl⟩ := isInt_of hdd hi
          have hr' : 0 ≤ i ∧ i ≤ 99 := by
            have hf : (true && (decide (0 ≤ i) && decide (i ≤ 99))) = true := hf
            rw [Bool.true_and, Bool.and_eq_true, decide_eq_true_iff, decide_eq_true_iff] at hf
            exact hf
          rw [if_pos rfl]
          refine ⟨.ref S', rfl, .int i, rfl, i, 1, rfl, rfl, .int i, rfl, i, 1, rfl, rfl, .int i, rfl, rfl, .int i, rfl, i, rfl, ?_, (by show 4 ≤ sizeLine; decide), fun l9 h9 => ?_⟩
          · exact Nat.lt_of_lt_of_le (PySem.Flt.log2_lt_of (n := i.natAbs) (k := 7) (by decide) (by show i.natAbs < 128; omega)) (by decide)
          have s9 := same_upd (o := .lst [.int (i + 1), .int (i - 1), .bl (decide (V.int i = V.int 1)), .str (Str.ofString (toString i))]) h9
          have e9 : upd H8 l9 (.lst [.int (i + 1), .int (i - 1), .bl (decide (V.int i = V.int 1)), .str (Str.ofString (toString i))]) l9 = some (.lst [.int (i + 1), .int (i - 1), .bl (decide (V.int i = V.int 1)), .str (Str.ofString (toString i))]) := upd_same
          have D9 := D8.same s9
          have eS9 := s9 _ _ eS'
          have f89 : Fr d g H8 _ := .of_same s9
          generalize upd H8 l9 (.lst [.int (i + 1), .int (i - 1), .bl (decide (V.int i = V.int 1)), .str (Str.ofString (toString i))]) = H9 at e9 D9 eS9 f89 ⊢
          refine ⟨S', l9, os', _, rfl, rfl, eS9, e9, (by rw [big]; show os'.length + 4 ≤ _; omega), fun Z hZ => ?_⟩
          have s10 := same_upd (o := .lst (os' ++ [.int (i + 1), .int (i - 1), .bl (decide (V.int i = V.int 1)), .str (Str.ofString (toString i))])) hZ
          have nZ := D9.nd hZ
          have eZ : upd H9 Z (.lst (os' ++ [.int (i + 1), .int (i - 1), .bl (decide (V.int i = V.int 1)), .str (Str.ofString (toString i))])) Z = some (.lst (os' ++ [.int (i + 1), .int (i - 1), .bl (decide (V.int i = V.int 1)), .str (Str.ofString (toString i))])) := upd_same
          have D10 := D9.same s10
          have f810 : Fr d g H8 _ := f89.trans (.of_same s10)
          generalize upd H9 Z (.lst (os' ++ [.int (i + 1), .int (i - 1), .bl (decide (V.int i = V.int 1)), .str (Str.ofString (toString i))])) = H10 at eZ D10 f810 ⊢
          simp only [gName, List.set_cons_succ, List.set_cons_zero]
          have ol : (os' ++ [V.int (i + 1), .int (i - 1), .bl (decide (V.int i = V.int 1)), .str (Str.ofString (toString i))]).length = os'.length + 4 := by rw [List.length_append]; rfl
          have more : ∀ z ∈ [V.int (i + 1), .int (i - 1), .bl (decide (V.int i = V.int 1)), .str (Str.ofString (toString i))], TB N B (2 * n + 8) (m + 1) H10 z := by
            intro z hz
            simp only [List.mem_cons, List.not_mem_nil, or_false] at hz
            rcases hz with rfl | rfl | rfl | rfl
            · exact .int (Nat.le_trans (by omega : (i + 1).natAbs ≤ 100) (Nat.le_trans (by decide) b1))
            · exact .int (Nat.le_trans (by omega : (i - 1).natAbs ≤ 100) (Nat.le_trans (by decide) b1))
            · exact .bl
            · have all : ∀ j ∈ List.range 100, ((Str.ofString (toString ((j : Nat) : Int))).cps.toList.all fun c => decide (c < 16 ^ 8)) = true ∧ (Str.ofString (toString ((j : Nat) : Int))).cps.size ≤ 8 := by decide +kernel
              have one := all i.toNat (List.mem_range.mpr (by omega))
              rw [Int.toNat_of_nonneg hr'.1] at one
              exact .str one.1 (Nat.le_trans one.2 (by omega))
          refine ⟨.ref Z, rfl, .ref d, rfl, .ref Z, rfl, Z, _, rfl, .inl (SqL.of eZ), ?_⟩
          refine ⟨d, g, c, _, ((os' ++ [V.int (i + 1), .int (i - 1), .bl (decide (V.int i = V.int 1)), .str (Str.ofString (toString i))]).length : Nat), rfl, by omega, by omega, D10, by omega, fun r H11 r0 r1 D11 f11 => ?_⟩
          obtain ⟨z, ez, sq, hz⟩ := fin Z H10 _ Q ⟨nZ.1, nZ.2.1⟩ D10 eZ (by omega) (by omega) (fun z hz H12 f12 D12 => q z H12 (((List.mem_append.mp hz).elim (fun h => (all8 z h).fr (O0.fr D8 f8) f810) (more z)).fr (O0.fr D10 (f8.trans f810)) f12) (D12.mono (by omega)) ((f8.trans f810).trans f12)) H11 r r0 r1 D11 f11
          exact ⟨Z, _, r, z, rfl, rfl, sq, ez, hz⟩
theorem ok__law_spoilt_n (T : Tx K mg A) : ∀ m : Nat, FnOk P w K mg base CX0 (m + 3) A.f__law_spoilt A.d__law_spoilt ["_law_deck_here", "_law_thing"] (spSpoilt m)
  | 0 => spoilt_core T 0 (fun _ _ _ _ => False) (T.d__law_spoilt.F.ok sc__law_spoilt (fun vs H Q E h => h.elim) (fun cdv A outer s H vs Q E hr h => h.elim)) (fun e h => by omega)
  | m + 1 => spoilt_core T (m + 1) (spSpoilt m) (ok__law_spoilt_n T m) (fun e h vs H Q E w => by
    have : e = m := by omega
    rw [← this]
    exact w)
theorem ok__law_spoilt22 (T : Tx K mg A) {m : Nat} (h : m ≤ 30) : FnOk P w K mg base CX0 40 A.f__law_spoilt A.d__law_spoilt ["_law_deck_here", "_law_thing"] (spSpoilt m) := (ok__law_spoilt_n T m).mono (by omega)
-- CUT
/-! ### the gadgets that are drawn -/
/-- the heap but for one address -/
def hide (L : Addr) (H : Hp) : Hp := fun a => if a = L then none else H a
theorem hide_put {L : Addr} {H : Hp} {o : HO} : hide L (upd H L o) = hide L H := by
  funext a
  unfold hide
  by_cases h : a = L
  · rw [if_pos h, if_pos h]
  · rw [if_neg h, if_neg h, upd_ne h]
theorem hide_same {L : Addr} {H : Hp} : Same (hide L H) H := fun a o e => by
  unfold hide at e
  split at e
  · cases e
  · exact e
theorem hide_none {L : Addr} {H : Hp} (h : H L = none) : hide L H = H := by
  funext a
  unfold hide
  split
  · rename_i z
    rw [z, h]
  · rfl
theorem hide_fr {L d g : Addr} {H H' : Hp} (f : Fr d g H H') : Fr d g (hide L H) (hide L H') := fun a o h1 h2 e => by
  unfold hide at e ⊢
  split at e
  · cases e
  · rename_i z
    rw [if_neg z]
    exact f a o h1 h2 e
def Nd (d g : Addr) : Addr → Prop := fun a => a = d ∨ a = g
def N3 (d g L : Addr) : Addr → Prop := fun a => a = d ∨ a = g ∨ a = L
theorem Nd.al {d g c : Addr} {k : Int} {H : Hp} (D : Dk d g c k H) : AlN (Nd d g) d g H := ⟨.inl rfl, .inr rfl, fun a z => by
  obtain ⟨gs, cs, n, h1, h2, _⟩ := D.ex
  rcases z with rfl | rfl
  · exact ⟨_, h1⟩
  · exact ⟨_, h2⟩⟩
theorem N3.al {d g c L : Addr} {k : Int} {H : Hp} {xs : List V} (D : Dk d g c k H) (e : H L = some (.lst xs)) : AlN (N3 d g L) d g H := ⟨.inl rfl, .inr (.inl rfl), fun a z => by
  obtain ⟨gs, cs, n, h1, h2, _⟩ := D.ex
  rcases z with rfl | rfl | rfl
  · exact ⟨_, h1⟩
  · exact ⟨_, h2⟩
  · exact ⟨_, e⟩⟩
theorem hide_al {d g c L : Addr} {k : Int} {H : Hp} (D : Dk d g c k H) (n : L ≠ d ∧ L ≠ g ∧ L ≠ c) : AlN (Nd d g) d g (hide L H) := ⟨.inl rfl, .inr rfl, fun a z => by
  obtain ⟨gs, cs, m, h1, h2, _⟩ := D.ex
  unfold hide
  rcases z with rfl | rfl
  · rw [if_neg (Ne.symm n.1)]
    exact ⟨_, h1⟩
  · rw [if_neg (Ne.symm n.2.1)]
    exact ⟨_, h2⟩⟩
theorem tb_n3 {d g L : Addr} {B n m : Nat} {H : Hp} {x : V} (h : TB (Nd d g) B n m (hide L H) x) : TB (N3 d g L) B n m H x := by
  obtain ⟨dd, h1, h2⟩ := h
  refine ⟨dd, h1.same fun a o e => ?_, h2⟩
  obtain ⟨n, e⟩ := cutN_not e
  unfold hide at e
  split at e
  · cases e
  · rename_i z
    exact cutN_at (fun w => w.elim (fun w => n (.inl w)) fun w => w.elim (fun w => n (.inr w)) z) e
def spGads : Sp := fun vs H Q _ => ∃ (d g c : Addr) (k p : Int) (B : Nat), vs = [.ref d, .int p] ∧ Dk d g c k H ∧ k ≤ 800000 ∧ 2 ≤ p ∧ p ≤ 13 ∧ 10 ^ 40 ≤ B ∧
  ∀ (L : Addr) (xs : List V) (H' : Hp), H' L = some (.lst xs) → xs.length = 7 → (∀ x ∈ xs, TB (N3 d g L) B 160 3 H' x) → L ≠ d ∧ L ≠ g ∧ L ≠ c → Dk d g c (k + 300) H' → Fr d g H H' → Q (.ref L) H'
theorem TBs.ints {N : Addr → Prop} {B m : Nat} {H : Hp} : ∀ {ns : List Int}, (∀ n ∈ ns, n.natAbs ≤ B) → TBs N B ns.length m H (ns.map V.int)
  | [], _ => .nil
  | n :: ns, h => (TBs.cons (n := 0) (.int (h n (by simp))) (TBs.ints fun x hx => h x (by simp [hx]))).mono (Nat.le_refl _) (by simp; omega) (Nat.le_refl _)
theorem TBs.each {N : Addr → Prop} {B n m : Nat} {H : Hp} : ∀ {xs : List V}, (∀ x ∈ xs, TB N B n m H x) → TBs N B ((n + 1) * xs.length) m H xs
  | [], _ => .nil
  | x :: xs, h => (TBs.cons (h x (by simp)) (TBs.each fun y hy => h y (by simp [hy]))).mono (Nat.le_refl _) (by simp [Nat.mul_add]; omega) (Nat.le_refl _)
theorem ok__law_gadgets (T : Tx K mg A) : FnOk P w K mg base CX0 3 A.f__law_gadgets A.d__law_gadgets ["_law_deck_here", "_law_p"] spGads := by
  have G__law_next : FnOk P w K mg base CX0 1 A.f__law_next A.d__law_next ["_law_deck_here", "_law_many"] spNext := ok__law_next T
  have G__law_hold : FnOk P w K mg base CX0 2 A.f__law_hold A.d__law_hold ["_law_deck_here", "_law_posts"] spHold := ok__law_hold T
  have G__law_table : FnOk P w K mg base CX0 2 A.f__law_table A.d__law_table ["_law_deck_here", "_law_p", "_law_posts"] spTab := ok__law_table T
  refine T.d__law_gadgets.F.ok sc__law_gadgets (fun vs H Q E h => ?_) (fun cdv A outer s H vs Q E hr h => ?_)
  · obtain ⟨d, g, c, k, p, B, rfl, _⟩ := h
    rfl
  · obtain ⟨d, g, c, k, p, B, rfl, D0, hk, p2, p13, b1, q⟩ := h
    refine ⟨_, (pss_cons (ps_set (i := 2) sc__law_gadgets.nd rfl (.inl rfl) (pe_call G__law_next (hr.mono (by decide)) (by rfl) T.d__law_next.g T.d__law_next.F.kp T.d__law_next.b .nil pass0 (pa_cons (pv 0) (pa_cons pe_int pa_nil))))
        (pss_cons (ps_set (i := 3) sc__law_gadgets.nd rfl (.inl rfl) (pe_call G__law_hold hr (by rfl) T.d__law_hold.g T.d__law_hold.F.kp T.d__law_hold.b .nil pass0 (pa_cons (pv 0) (pa_cons (pv 2) pa_nil))))
        (pss_cons (ps_set (i := 4) sc__law_gadgets.nd rfl (.inl rfl) (pe_lst (pa_cons pe_int (pa_cons pe_int (pa_cons (pe_op op_sub (pv 1) pe_int) (pa_cons (pv 1) (pa_cons (pe_un un_neg pe_int) (pa_cons pe_int (pa_cons pe_int (pa_cons pe_int (pa_cons (pe_call G__law_next (hr.mono (by decide)) (by rfl) T.d__law_next.g T.d__law_next.F.kp T.d__law_next.b .nil pass0 (pa_cons (pv 0) (pa_cons (pv 1) pa_nil))) pa_nil)))))))))))
        (pss_cons (ps_set (i := 5) sc__law_gadgets.nd rfl (.inl rfl) (pe_lst (pa_cons (pe_tup (pa_cons pe_str (pa_cons (pv 3) (pa_cons (pe_call G__law_table hr (by rfl) T.d__law_table.g T.d__law_table.F.kp T.d__law_table.b .nil pass0 (pa_cons (pv 0) (pa_cons (pv 1) (pa_cons (pv 2) pa_nil)))) pa_nil)))) (pa_cons (pe_tup (pa_cons pe_str (pa_cons (pe_tup pa_nil) (pa_cons (pe_tup pa_nil) pa_nil)))) (pa_cons (pe_tup (pa_cons pe_str (pa_cons (pe_op Gx.op_repA (pe_tup (pa_cons pe_int pa_nil)) pe_int) (pa_cons (pe_op Gx.op_repA (pe_tup (pa_cons (pe_op Gx.op_repA (pe_tup (pa_cons pe_int pa_nil)) pe_int) pa_nil)) pe_int) pa_nil)))) pa_nil)))))
        (pss_cons (ps_for PassesOwn.never rfl (pi_tup (pe_tup (pa_cons pe_str (pa_cons pe_str (pa_cons pe_str (pa_cons pe_str pa_nil)))))) (pg_name (i := 6) sc__law_gadgets.nd rfl (.inl rfl))
        (pss_one (ps_expr (pe_bm PySem.F.plainAttrs_list PySem.F.slot_list_append PySem.F.type_list_append mt_append (pv 5) (pa_cons (pe_tup (pa_cons (pv 6) (pa_cons (pe_ix ix_list (pv 4) (pe_call G__law_next (hr.mono (by decide)) (by rfl) T.d__law_next.g T.d__law_next.F.kp T.d__law_next.b .nil pass0 (pa_cons (pv 0) (pa_cons pe_int pa_nil))) (fun _ _ => rfl)) pa_nil))) pa_nil)))))
        (pss_one (ps_ret (pv 5)))))))), ?_⟩
    have bb : 10 ^ 6 ≤ B := Nat.le_trans (by decide) b1
    refine ⟨.ref d, rfl, d, g, c, k, 11, rfl, by decide, by decide, D0, by omega, fun r H1 r0 r1 D1 f1 => ?_⟩
    obtain ⟨m, rfl⟩ := Int.eq_ofNat_of_zero_le r0
    refine ⟨.ref d, rfl, .int m, rfl, d, g, c, _, m, rfl, D1, by omega, by omega, fun t hs H2 h01 hl e2 D2 f2 => ?_⟩
    refine ⟨.int p, rfl, p, 1, rfl, rfl, .int p, rfl, 1, rfl, .ref d, rfl, .int p, rfl, d, g, c, _, p, rfl, by omega, by omega, D2, by omega, fun r3 H3 r30 r31 D3 f3 => ?_⟩
    refine ⟨(by show 9 ≤ sizeLine; decide), fun N hN => ?_⟩
    have nN := D3.nd hN
    have eN : upd H3 N (.lst [.int 0, .int 1, .int (p - 1), .int p, .int (-1), .int 2, .int 10, .int 11, .int r3]) N = some (.lst [.int 0, .int 1, .int (p - 1), .int p, .int (-1), .int 2, .int 10, .int 11, .int r3]) := upd_same
    have s4 := same_upd (o := .lst [.int 0, .int 1, .int (p - 1), .int p, .int (-1), .int 2, .int 10, .int 11, .int r3]) hN
    have D4 := D3.same s4
    have f4 : Fr d g H3 _ := .of_same s4
    generalize upd H3 N (.lst [.int 0, .int 1, .int (p - 1), .int p, .int (-1), .int 2, .int 10, .int 11, .int r3]) = H4 at eN s4 D4 f4 ⊢
    simp only [gName, List.set_cons_succ, List.set_cons_zero]
    refine ⟨.ref t, rfl, .ref d, rfl, .int p, rfl, .int m, rfl, d, g, c, _, p, m, rfl, D4, by omega, p2, p13, by omega, fun tt ys gs H5 ett htr gl gok gsy D5 f5 => ?_⟩
    have nt := D2.nt e2
    have ntt := D5.nt ett
    have e5 := f5 _ _ nt.1 nt.2 (s4 _ _ (f3 _ _ nt.1 nt.2 e2))
    have wt : TB (Nd d g) B 11 1 H5 (.ref t) := (TB.tupOf (m := 0) e5 ((Nd.al D5).nt e5) (TBs.ints fun n hn => by have := h01 n hn; omega)).mono (Nat.le_refl _) (by omega) (Nat.le_refl _)
    have wtt : TB (Nd d g) B 132 2 H5 (.ref tt) := (TB.tupOf (m := 1) ett ((Nd.al D5).nt ett) (TBs.each (n := 11) fun y hy => by
      obtain ⟨i, ei⟩ := List.getElem?_of_mem hy
      obtain ⟨a, r, rfl, er, ea⟩ := htr.get ei
      have na := D5.nt ea
      obtain ⟨rl, rg⟩ := gok r (List.mem_of_getElem? er)
      exact (TB.tupOf (m := 0) ea ((Nd.al D5).nt ea) (TBs.ints fun n hn => by have := rg n hn; omega)).mono (Nat.le_refl _) (by omega) (Nat.le_refl _))).mono (Nat.le_refl _) (by have := htr.len; omega) (Nat.le_refl _)
    have word : ∀ H', TB (Nd d g) B 5 2 H' (.str ("table" : Str)) := fun _ => .str (by decide) (by decide)
    refine ⟨(by show 3 ≤ sizeLine; decide), fun T1 hT1 => ?_⟩
    have s5 := same_upd (o := .tup [.str ("table" : Str), .ref t, .ref tt]) hT1
    have eT1 : upd H5 T1 (.tup [.str ("table" : Str), .ref t, .ref tt]) T1 = some (.tup [.str ("table" : Str), .ref t, .ref tt]) := upd_same
    have wT1 : TB (Nd d g) B 160 3 (upd H5 T1 (.tup [.str ("table" : Str), .ref t, .ref tt])) (.ref T1) := (TB.newT (xs := [.str ("table" : Str), .ref t, .ref tt]) (Nd.al D5) hT1 ((.cons (n := 5) (word _) (.cons (n := 11) (wt.mono (Nat.le_refl _) (Nat.le_refl _) (by decide)) (.cons (n := 132) wtt (.nil (n := 0))))))).mono (Nat.le_refl _) (by decide) (by decide)
    have D6 := D5.same s5
    generalize upd H5 T1 (.tup [.str ("table" : Str), .ref t, .ref tt]) = H6 at s5 eT1 D6 wT1 ⊢
    refine ⟨(by show 0 ≤ sizeLine; decide), fun q1 hq1 => ?_⟩
    have s6 := same_upd (o := .tup []) hq1
    have eq1 : upd H6 q1 (.tup []) q1 = some (.tup []) := upd_same
    have wq1 : TB (Nd d g) B 0 2 (upd H6 q1 (.tup [])) (.ref q1) := (TB.newT (xs := []) (m := 1) (n := 0) (Nd.al D6) hq1 .nil).mono (Nat.le_refl _) (by decide) (by decide)
    have D7 := D6.same s6
    generalize upd H6 q1 (.tup []) = H7 at s6 eq1 D7 wq1 ⊢
    refine ⟨(by show 0 ≤ sizeLine; decide), fun q2 hq2 => ?_⟩
    have s7 := same_upd (o := .tup []) hq2
    have eq2 : upd H7 q2 (.tup []) q2 = some (.tup []) := upd_same
    have wq2 : TB (Nd d g) B 0 2 (upd H7 q2 (.tup [])) (.ref q2) := (TB.newT (xs := []) (m := 1) (n := 0) (Nd.al D7) hq2 .nil).mono (Nat.le_refl _) (by decide) (by decide)
    have D8 := D7.same s7
    generalize upd H7 q2 (.tup []) = H8 at s7 eq2 D8 wq2 ⊢
    refine ⟨(by show 3 ≤ sizeLine; decide), fun T2 hT2 => ?_⟩
    have s8 := same_upd (o := .tup [.str ("table" : Str), .ref q1, .ref q2]) hT2
    have eT2 : upd H8 T2 (.tup [.str ("table" : Str), .ref q1, .ref q2]) T2 = some (.tup [.str ("table" : Str), .ref q1, .ref q2]) := upd_same
    have wT2 : TB (Nd d g) B 160 3 (upd H8 T2 (.tup [.str ("table" : Str), .ref q1, .ref q2])) (.ref T2) := (TB.newT (xs := [.str ("table" : Str), .ref q1, .ref q2]) (Nd.al D8) hT2 ((.cons (n := 5) (word _) (.cons (n := 0) (wq1.fr (Nd.al D7) (.of_same s7)) (.cons (n := 0) wq2 (.nil (n := 0))))))).mono (Nat.le_refl _) (by decide) (by decide)
    have D9 := D8.same s8
    generalize upd H8 T2 (.tup [.str ("table" : Str), .ref q1, .ref q2]) = H9 at s8 eT2 D9 wT2 ⊢
    refine ⟨(by show 1 ≤ sizeLine; decide), fun z1 hz1 => ?_⟩
    have s9 := same_upd (o := .tup [.int 0]) hz1
    have ez1 : upd H9 z1 (.tup [.int 0]) z1 = some (.tup [.int 0]) := upd_same
    have D10 := D9.same s9
    generalize upd H9 z1 (.tup [.int 0]) = H10 at s9 ez1 D10 ⊢
    refine ⟨z1, 11, _, rfl, rfl, SqT.of ez1, by simp, by decide, by decide, by (show 1 ≤ 1000; decide), fun z => absurd z (by decide), fun _ z2 hz2 => ?_⟩
    rw [show (List.replicate (Int.toNat 11) [V.int 0]).flatten = List.replicate 11 (V.int 0) from rfl]
    have s10 := same_upd (o := .tup (List.replicate 11 (V.int 0))) hz2
    have ez2 : upd H10 z2 (.tup (List.replicate 11 (V.int 0))) z2 = some (.tup (List.replicate 11 (V.int 0))) := upd_same
    have wz2 : TB (Nd d g) B 11 2 (upd H10 z2 (.tup (List.replicate 11 (V.int 0)))) (.ref z2) := (TB.newT (xs := (List.replicate 11 (V.int 0))) (Nd.al D10) hz2 ((TBs.ints (ns := List.replicate 11 0) (m := 1) fun n hn => by rw [List.eq_of_mem_replicate hn]; exact Nat.zero_le _))).mono (Nat.le_refl _) (by decide) (by decide)
    have D11 := D10.same s10
    generalize upd H10 z2 (.tup (List.replicate 11 (V.int 0))) = H11 at s10 ez2 D11 wz2 ⊢
    refine ⟨(by show 1 ≤ sizeLine; decide), fun z3 hz3 => ?_⟩
    have s11 := same_upd (o := .tup [.int 0]) hz3
    have ez3 : upd H11 z3 (.tup [.int 0]) z3 = some (.tup [.int 0]) := upd_same
    have D12 := D11.same s11
    generalize upd H11 z3 (.tup [.int 0]) = H12 at s11 ez3 D12 ⊢
    refine ⟨z3, 11, _, rfl, rfl, SqT.of ez3, by simp, by decide, by decide, by (show 1 ≤ 1000; decide), fun z => absurd z (by decide), fun _ z4 hz4 => ?_⟩
    rw [show (List.replicate (Int.toNat 11) [V.int 0]).flatten = List.replicate 11 (V.int 0) from rfl]
    have s12 := same_upd (o := .tup (List.replicate 11 (V.int 0))) hz4
    have ez4 : upd H12 z4 (.tup (List.replicate 11 (V.int 0))) z4 = some (.tup (List.replicate 11 (V.int 0))) := upd_same
    have wz4 : TB (Nd d g) B 11 1 (upd H12 z4 (.tup (List.replicate 11 (V.int 0)))) (.ref z4) := (TB.newT (xs := (List.replicate 11 (V.int 0))) (Nd.al D12) hz4 ((TBs.ints (ns := List.replicate 11 0) (m := 0) fun n hn => by rw [List.eq_of_mem_replicate hn]; exact Nat.zero_le _))).mono (Nat.le_refl _) (by decide) (by decide)
    have D13 := D12.same s12
    generalize upd H12 z4 (.tup (List.replicate 11 (V.int 0))) = H13 at s12 ez4 D13 wz4 ⊢
    refine ⟨(by show 1 ≤ sizeLine; decide), fun z5 hz5 => ?_⟩
    have s13 := same_upd (o := .tup [.ref z4]) hz5
    have ez5 : upd H13 z5 (.tup [.ref z4]) z5 = some (.tup [.ref z4]) := upd_same
    have D14 := D13.same s13
    generalize upd H13 z5 (.tup [.ref z4]) = H14 at s13 ez5 D14 ⊢
    refine ⟨z5, 11, _, rfl, rfl, SqT.of ez5, by simp, by decide, by decide, by (show 1 ≤ 1000; decide), fun z => absurd z (by decide), fun _ z6 hz6 => ?_⟩
    rw [show (List.replicate (Int.toNat 11) [V.ref z4]).flatten = List.replicate 11 (V.ref z4) from rfl]
    have s14 := same_upd (o := .tup (List.replicate 11 (V.ref z4))) hz6
    have ez6 : upd H14 z6 (.tup (List.replicate 11 (V.ref z4))) z6 = some (.tup (List.replicate 11 (V.ref z4))) := upd_same
    have wz6 : TB (Nd d g) B 132 2 (upd H14 z6 (.tup (List.replicate 11 (V.ref z4)))) (.ref z6) := (TB.newT (xs := (List.replicate 11 (V.ref z4))) (Nd.al D14) hz6 ((TBs.each (n := 11) (m := 1) fun y hy => by rw [List.eq_of_mem_replicate hy]; exact wz4.fr (Nd.al D13) (.of_same s13)))).mono (Nat.le_refl _) (by rw [List.length_replicate]; decide) (by decide)
    have D15 := D14.same s14
    generalize upd H14 z6 (.tup (List.replicate 11 (V.ref z4))) = H15 at s14 ez6 D15 wz6 ⊢
    refine ⟨(by show 3 ≤ sizeLine; decide), fun T3 hT3 => ?_⟩
    have s15 := same_upd (o := .tup [.str ("table" : Str), .ref z2, .ref z6]) hT3
    have eT3 : upd H15 T3 (.tup [.str ("table" : Str), .ref z2, .ref z6]) T3 = some (.tup [.str ("table" : Str), .ref z2, .ref z6]) := upd_same
    have wT3 : TB (Nd d g) B 160 3 (upd H15 T3 (.tup [.str ("table" : Str), .ref z2, .ref z6])) (.ref T3) := (TB.newT (xs := [.str ("table" : Str), .ref z2, .ref z6]) (Nd.al D15) hT3 ((.cons (n := 5) (word _) (.cons (n := 11) (wz2.fr (Nd.al D11) (.of_same (s11.trans (s12.trans (s13.trans s14))))) (.cons (n := 132) wz6 (.nil (n := 0))))))).mono (Nat.le_refl _) (by decide) (by decide)
    have D16 := D15.same s15
    generalize upd H15 T3 (.tup [.str ("table" : Str), .ref z2, .ref z6]) = H16 at s15 eT3 D16 wT3 ⊢
    refine ⟨(by show 3 ≤ sizeLine; decide), fun L hL => ?_⟩
    have nL := D16.nd hL
    have s16 := same_upd (o := .lst [.ref T1, .ref T2, .ref T3]) hL
    have D17 := D16.same s16
    have eL : upd H16 L (.lst [.ref T1, .ref T2, .ref T3]) L = some (.lst [.ref T1, .ref T2, .ref T3]) := upd_same
    have c15 := s15.trans s16
    have c14 := s14.trans c15
    have c13 := s13.trans c14
    have c12 := s12.trans c13
    have c11 := s11.trans c12
    have c10 := s10.trans c11
    have c9 := s9.trans c10
    have c8 := s8.trans c9
    have c7 := s7.trans c8
    have c6 := s6.trans c7
    have c5 := s5.trans c6
    have w1 : TB (Nd d g) B 160 3 (hide L (upd H16 L (.lst [.ref T1, .ref T2, .ref T3]))) (.ref T1) := by
      rw [hide_put, hide_none hL]
      exact wT1.fr (Nd.al D6) (.of_same (s6.trans (s7.trans (s8.trans (s9.trans (s10.trans (s11.trans (s12.trans (s13.trans (s14.trans s15))))))))))
    have w2 : TB (Nd d g) B 160 3 (hide L (upd H16 L (.lst [.ref T1, .ref T2, .ref T3]))) (.ref T2) := by
      rw [hide_put, hide_none hL]
      exact wT2.fr (Nd.al D9) (.of_same (s9.trans (s10.trans (s11.trans (s12.trans (s13.trans (s14.trans s15)))))))
    have w3 : TB (Nd d g) B 160 3 (hide L (upd H16 L (.lst [.ref T1, .ref T2, .ref T3]))) (.ref T3) := by
      rw [hide_put, hide_none hL]
      exact wT3
    have f16 : Fr d g H H16 := f1.trans (f2.trans (f3.trans (f4.trans (f5.trans (.of_same (s5.trans (s6.trans (s7.trans (s8.trans (s9.trans (s10.trans (s11.trans (s12.trans (s13.trans (s14.trans s15)))))))))))))))
    have nHL : ∀ b o, b ≠ d → b ≠ g → H b = some o → b ≠ L := fun b o n1 n2 e => ne_of_none (f16 b o n1 n2 e) hL
    clear f16
    have eN5 := f5 N _ nN.1 nN.2.1 eN
    have eN17 := c5 _ _ eN5
    have fL : Fr d g H _ := f1.trans (f2.trans (f3.trans (f4.trans (f5.trans (.of_same c5)))))
    have NL : N ≠ L := fun z => by
      have y := eN17
      rw [z, eL] at y
      injection y with y
      injection y with y
      have y := congrArg List.length y
      simp at y
    clear c5 c6 c7 c8 c9 c10 c11 c12 c13 c14 c15
    generalize upd H16 L (.lst [.ref T1, .ref T2, .ref T3]) = H17 at s16 eL D17 w1 w2 w3 eN17 fL ⊢
    simp only [gName, List.set_cons_succ, List.set_cons_zero]
    refine ⟨(by show 4 ≤ sizeLine; decide), fun W hW => ?_⟩
    have nW := D17.nd hW
    have NW : W ≠ L := fun z => by
      rw [z, eL] at hW
      cases hW
    have sW := same_upd (o := .tup [.str "spring", .str "lever", .str "knot", .str "ring"]) hW
    have D18 := D17.same sW
    have eW : upd H17 W (.tup [.str "spring", .str "lever", .str "knot", .str "ring"]) W = some (.tup [.str "spring", .str "lever", .str "knot", .str "ring"]) := upd_same
    have e18 := sW _ _ eL
    have eN18 := sW _ _ eN17
    have f18 : Fr d g H _ := fL.trans (.of_same sW)
    have all : ∀ x ∈ [V.ref T1, .ref T2, .ref T3], TB (Nd d g) B 160 3 (hide L (upd H17 W (.tup [.str "spring", .str "lever", .str "knot", .str "ring"]))) x := by
      intro x hx
      simp only [List.mem_cons, List.not_mem_nil, or_false] at hx
      rcases hx with rfl | rfl | rfl
      · exact w1.fr (hide_al D17 nL) (hide_fr (.of_same sW))
      · exact w2.fr (hide_al D17 nL) (hide_fr (.of_same sW))
      · exact w3.fr (hide_al D17 nL) (hide_fr (.of_same sW))
    generalize upd H17 W (.tup [.str "spring", .str "lever", .str "knot", .str "ring"]) = H18 at D18 eW e18 eN18 f18 all ⊢
    refine ⟨W, rfl, ⟨_, SqT.of eW⟩, for_it (D := ⟨_, Q, fun _ _ => False, fun _ _ => False⟩) (walk_tup (xs := [.str "spring", .str "lever", .str "knot", .str "ring"])) (fun i σ H' => ∃ v6 xs, σ = [some (.ref d), some (.int p), some (.int (m : Nat)), some (.ref t), some (.ref N), some (.ref L), v6] ∧ Dk d g c (k + 260 + i) H' ∧ Fr d g H H' ∧ H' W = some (.tup [.str "spring", .str "lever", .str "knot", .str "ring"]) ∧ H' N = some (.lst [.int 0, .int 1, .int (p - 1), .int p, .int (-1), .int 2, .int 10, .int 11, .int r3]) ∧ H' L = some (.lst xs) ∧ xs.length = 3 + i ∧ ∀ x ∈ xs, TB (Nd d g) B 160 3 (hide L H') x) ⟨_, _, rfl, D18.mono (by omega), f18, eW, eN18, e18, rfl, all⟩ (fun i σ H' _ h => by obtain ⟨_, _, _, _, _, h, _⟩ := h; exact SqT.of h) ?_ ?_⟩
    · rintro i y σ H1' H6 hi ⟨v6, xs, rfl, D6, f6, eW6, eN6, eL6, xl, all6⟩ ⟨rfl, hy⟩
      obtain ⟨wd, rfl, hwd⟩ : ∃ wd : Str, y = .str wd ∧ ((wd.cps.toList.all fun c => decide (c < 16 ^ 8)) = true ∧ wd.cps.size ≤ 20) := by
        match i, hy with
        | 0, h => cases h; exact ⟨_, rfl, by decide⟩
        | 1, h => cases h; exact ⟨_, rfl, by decide⟩
        | 2, h => cases h; exact ⟨_, rfl, by decide⟩
        | 3, h => cases h; exact ⟨_, rfl, by decide⟩
      have i4 : i < 4 := hi
      simp only [List.set_cons_succ, List.set_cons_zero]
      refine ⟨.ref L, rfl, .inl ⟨rfl, _, SqL.of eL6⟩, .str wd, rfl, .ref N, rfl, .ref d, rfl, d, g, c, _, 9, rfl, by decide, by decide, D6, by omega, fun x H7 x0 x1 D7 f7 => ?_⟩
      obtain ⟨x, rfl⟩ := Int.eq_ofNat_of_zero_le x0
      have eL7 := f7 _ _ nL.1 nL.2.1 eL6
      have eN7 := f7 _ _ nN.1 nN.2.1 eN6
      have eW7 := f7 _ _ nW.1 nW.2.1 eW6
      obtain ⟨v, ev, vb⟩ : ∃ v : Int, ([V.int 0, .int 1, .int (p - 1), .int p, .int (-1), .int 2, .int 10, .int 11, .int r3])[x]? = some (.int v) ∧ v.natAbs ≤ B := by
        match x, x1 with
        | 0, _ => exact ⟨0, rfl, by omega⟩
        | 1, _ => exact ⟨1, rfl, by omega⟩
        | 2, _ => exact ⟨(p - 1), rfl, by omega⟩
        | 3, _ => exact ⟨p, rfl, by omega⟩
        | 4, _ => exact ⟨(-1), rfl, by omega⟩
        | 5, _ => exact ⟨2, rfl, by omega⟩
        | 6, _ => exact ⟨10, rfl, by omega⟩
        | 7, _ => exact ⟨11, rfl, by omega⟩
        | 8, _ => exact ⟨r3, rfl, by omega⟩
        | x + 9, h => omega
      refine ⟨N, _, (x : Nat), .int v, rfl, rfl, SqL.of eN7, atI_nat ev, (by show 2 ≤ sizeLine; decide), fun q9 hq9 => ?_⟩
      have s8 := same_upd (o := .tup [.str wd, .int v]) hq9
      have n9 := D7.nd hq9
      have n9L : q9 ≠ L := fun z => by
        rw [z, eL7] at hq9
        cases hq9
      have D8 := D7.same s8
      have e9 : upd H7 q9 (.tup [.str wd, .int v]) q9 = some (.tup [.str wd, .int v]) := upd_same
      have eL8 := s8 _ _ eL7
      have eN8 := s8 _ _ eN7
      have eW8 := s8 _ _ eW7
      have f68 : Fr d g H6 _ := f7.trans (.of_same s8)
      generalize upd H7 q9 (.tup [.str wd, .int v]) = H8 at D8 e9 eL8 eN8 eW8 f68 ⊢
      refine ⟨L, xs, .ref q9, rfl, rfl, eL8, small (by omega), ?_⟩
      refine ⟨_, xs ++ [.ref q9], rfl, (D8.put nL.1 nL.2.1 nL.2.2).mono (by omega), fun b o n1 n2 e => ?_, ?_, ?_, upd_same, by rw [List.length_append, xl]; rfl, fun z hz => ?_⟩
      · rw [upd_ne (nHL b o n1 n2 e)]
        exact f68 _ _ n1 n2 (f6 _ _ n1 n2 e)
      · rw [upd_ne NW]
        exact eW8
      · rw [upd_ne NL]
        exact eN8
      · rw [hide_put]
        rcases List.mem_append.mp hz with h | h
        · exact (all6 z h).fr (hide_al D6 nL) (hide_fr f68)
        · rw [List.mem_singleton.mp h]
          have e9' : hide L H8 q9 = some (.tup [.str wd, .int v]) := by
            unfold hide
            rw [if_neg n9L]
            exact e9
          exact (TB.tupOf (m := 2) e9' (fun z => z.elim n9.1 n9.2.1) (.cons (n := 20) (.str hwd.1 hwd.2) (.cons (n := 0) (.int vb) (.nil (n := 0))))).mono (Nat.le_refl _) (by decide) (Nat.le_refl _)
    · rintro σ H1' ⟨v6, xs, rfl, D6, f6, eW6, eN6, eL6, xl, all6⟩
      exact ⟨.ref L, rfl, q L xs _ eL6 xl (fun x hx => tb_n3 (all6 x hx)) nL (D6.mono (by simp; omega)) f6⟩
-- CUT
/-! ### the program's answer is the law's, twice, and nothing is changed -/
theorem Gb.few2 {B n m : Nat} {d : PyData} (hn : n ≤ 400) (h : Gb B n m d) : ∀ ds, d = .tuple ds → ∀ e ∈ ds, Few2 e := by
  have few : ∀ {n m : Nat} {d : PyData}, n ≤ 400 → Gb B n m d → Few d := fun hn g ds e => by
    rw [e] at g
    obtain ⟨_, _, g2⟩ := g.of_tup
    have := g2.len
    omega
  rintro ds rfl e he
  obtain ⟨_, _, g2⟩ := h.of_tup
  obtain ⟨i, ei⟩ := List.getElem?_of_mem he
  have g3 := g2.get ei
  refine ⟨few hn g3, ?_⟩
  rintro es rfl u hu
  obtain ⟨_, _, g4⟩ := g3.of_tup
  obtain ⟨j, ej⟩ := List.getElem?_of_mem hu
  exact few hn (g4.get ej)
def spRight22 : Sp := fun vs H Q _ => ∃ (p : Int) (y : V) (d : PyData) (B : Nat), vs = [.int p, y] ∧ 1 < p ∧ p ≤ 13 ∧ Dq H y d ∧ Gb B 400 5 d ∧ B < 10 ^ 41 ∧ ∀ H', Same H H' → Q (.bl true) H'
theorem ok__law_right22 (T : Tx K mg A) (hm : ∃ o, base.get? sysModules = some o) : FnG P w K mg base 8 A.f__law_right A.d__law_right ["_law_p", "_law_thing"] spRight22 := by
  have G__law_due : FnOk P w K mg base CX0 4 A.f__law_due A.d__law_due ["_law_p", "_law_thing"] spDue22 := ok__law_due22 T
  have G_is_gadget : FnOk P w K mg base CX0 7 A.f_is_gadget A.d_is_gadget ["p", "thing"] spGadD := ok_is_gadget T
  refine okG T.d__law_right.F sc__law_right (fun h => ?_) (fun cdv A' outer s H vs Q E hgd hr h => ?_)
  · obtain ⟨p, y, d, B, rfl, _⟩ := h
    rfl
  · obtain ⟨p, y, d, B, rfl, p1, p13, hd, gb, hB, q⟩ := h
    have fw := gb.few2 (Nat.le_refl _)
    have len : d.shown.length ≤ 20000 := by
      have := gb.shown hB
      omega
    have sh := gb.showable hB
    have dep : d.depth ≤ 64 := by
      have := gb.2.2
      omega
    have big : sizeLine = 16777216 := by decide
    refine ⟨_, (pss_cons (ps_set (i := 2) sc__law_right.nd rfl (.inl rfl) (pe_callB (call_reprQ hm (by exact hgd) (ru80 hr)) (by rfl) T.b_repr PyProof.Rows.boot_repr (pa_cons (pv 1) pa_nil)))
        (pss_cons (ps_set (i := 3) sc__law_right.nd rfl (.inl rfl) (pe_call G__law_due (hr.mono (by decide)) (by rfl) T.d__law_due.g T.d__law_due.F.kp T.d__law_due.b .nil pass0 (pa_cons (pv 0) (pa_cons (pv 1) pa_nil))))
        (pss_cons (ps_for PassesOwn.never rfl (pi_range1 (by rfl) T.b_range (pa_cons pe_int pa_nil)) (pg_name (i := 4) sc__law_right.nd rfl (.inl rfl))
        (pss_cons (ps_set (i := 5) sc__law_right.nd rfl (.inl rfl) (pe_call G_is_gadget hr (by rfl) T.d_is_gadget.g T.d_is_gadget.F.kp T.d_is_gadget.b .nil pass0 (pa_cons (pv 0) (pa_cons (pv 1) pa_nil))))
        (pss_one (ps_if (PW.pt (pw_or (pt_not (pt_val (pe_callB call_isi (by rfl) T.b_isinstance PyProof.Rows.boot_isinstance (pa_cons (pv 5) (pa_cons (pe_bltn (v := .ty "bool") (by rfl) T.b_bool PyProof.Rows.boot_bool rfl) pa_nil))))) (pw_or (pt_cmpR op_ne (pv 5) (pv 3) (nomark _)) (pw_or1 (pt_cmpR op_ne (pe_callB (call_reprQ hm (by exact hgd) (ru80 hr)) (by rfl) T.b_repr PyProof.Rows.boot_repr (pa_cons (pv 1) pa_nil)) (pv 2) (nomark _))))))
        (pss_one (ps_ret pe_bl))
        pss_nil))))
        (pss_one (ps_ret pe_bl))))), ?_⟩
    refine ⟨y, rfl, y, d, rfl, hd, sh, dep, by omega, ?_⟩
    refine ⟨.int p, rfl, y, rfl, p, y, d, rfl, p1, p13, hd, fw, fun H1 s1 => ?_⟩
    refine ⟨2, rfl, by decide, by decide, for_range (n := 2) (fun i σ H' => ∃ v4 v5, σ = [some (.int p), some y, some (.str d.shown), some (.bl (gadD p d)), v4, v5] ∧ Same H H') ⟨_, _, rfl, s1⟩ ?_ ?_⟩
    · rintro i σ H2 hi ⟨v4, v5, rfl, s2⟩
      refine ⟨.int p, rfl, y, rfl, p, y, d, rfl, hd.same s2, fw, fun H3 s3 => ?_⟩
      have hd3 := hd.same (s2.trans s3)
      simp only [gName, List.set_cons_succ, List.set_cons_zero]
      refine ⟨.bl _, rfl, .bl _, _, _, _, _, rfl, .ty "bool", .base (.bl _), isi_of "bool" (by simp) (by simp), _, rfl, ite2 (fun z => ?_) (fun _ => ?_)⟩
      · exact absurd z (by decide +kernel)
      refine ⟨.bl _, rfl, .bl _, rfl, rfl, _, rfl, ite2 (fun z => ?_) (fun _ => ?_)⟩
      · rw [decide_eq_true rfl] at z
        cases z
      refine ⟨y, rfl, y, d, rfl, hd3, sh, dep, by omega, .str d.shown, rfl, ?_⟩
      refine ⟨rfl, _, rfl, ite2 (fun z => ?_) (fun _ => ?_)⟩
      · rw [decide_eq_true rfl] at z
        cases z
      show tNext _ _ _
      dsimp only [tNext]
      exact ⟨_, _, rfl, s2.trans s3⟩
    · rintro σ H2 ⟨v4, v5, rfl, s2⟩
      exact q _ s2
-- CUT
/-! ### the law -/
set_option maxHeartbeats 8000000 in
theorem ok_law (T : Tx K mg A) : LawOk P w K mg A.f_law := by
  refine law_at (k := 40) T.d_law sc_law ⟨rfl, by decide, by decide⟩ fun base t H a ns cdv hlen hm hS hr => ?_
  have hgd : callerA.guards = some [] := rfl
  have G__law_deck : FnOk P w K mg base CX0 1 A.f__law_deck A.d__law_deck ["_law_script"] (spDeck K) := ok__law_deck T
  have G__law_prime : FnOk P w K mg base CX0 2 A.f__law_prime A.d__law_prime ["_law_deck_here"] spPrm := ok__law_prime T
  have G__law_hold : FnOk P w K mg base CX0 2 A.f__law_hold A.d__law_hold ["_law_deck_here", "_law_posts"] spHold := ok__law_hold T
  have G__law_gadgets : FnOk P w K mg base CX0 3 A.f__law_gadgets A.d__law_gadgets ["_law_deck_here", "_law_p"] spGads := ok__law_gadgets T
  have G__law_spoilt : FnOk P w K mg base CX0 40 A.f__law_spoilt A.d__law_spoilt ["_law_deck_here", "_law_thing"] (spSpoilt 3) := ok__law_spoilt22 T (by decide)
  have G__law_right : FnG P w K mg base 8 A.f__law_right A.d__law_right ["_law_p", "_law_thing"] spRight22 := ok__law_right22 T hm
  refine ⟨_, (pss_cons (ps_set (i := 1) sc_law.nd rfl (.inl rfl) (pe_call G__law_deck (hr.mono (by decide)) (by rfl) T.d__law_deck.g T.d__law_deck.F.kp T.d__law_deck.b .nil pass0 (pa_cons (pv 0) pa_nil)))
        (pss_cons (ps_set (i := 2) sc_law.nd rfl (.inl rfl) (pe_call G__law_prime (hr.mono (by decide)) (by rfl) T.d__law_prime.g T.d__law_prime.F.kp T.d__law_prime.b .nil pass0 (pa_cons (pv 1) pa_nil)))
        (pss_cons (ps_set (i := 3) sc_law.nd rfl (.inl rfl) (pe_call G__law_gadgets (hr.mono (by decide)) (by rfl) T.d__law_gadgets.g T.d__law_gadgets.F.kp T.d__law_gadgets.b .nil pass0 (pa_cons (pv 1) (pa_cons (pv 2) pa_nil))))
        (pss_cons (ps_for PassesOwn.never rfl (pi_list (pe_callTy call_list_of (by rfl) T.b_list PyProof.Rows.boot_list (pa_cons (pv 3) pa_nil))) (pg_name (i := 4) sc_law.nd rfl (.inl rfl))
        (pss_one (ps_for PassesOwn.never rfl (pi_range1 (by rfl) T.b_range (pa_cons pe_int pa_nil)) (pg_name (i := 7) sc_law.nd rfl (.inl rfl))
        (pss_one (ps_expr (pe_bm PySem.F.plainAttrs_list PySem.F.slot_list_append PySem.F.type_list_append mt_append (pv 3) (pa_cons (pe_call G__law_spoilt hr (by rfl) T.d__law_spoilt.g T.d__law_spoilt.F.kp T.d__law_spoilt.b .nil pass0 (pa_cons (pv 1) (pa_cons (pv 4) pa_nil))) pa_nil)))))))
        (pss_cons (ps_set (i := 5) sc_law.nd rfl (.inl rfl) (pe_call G__law_hold (hr.mono (by decide)) (by rfl) T.d__law_hold.g T.d__law_hold.F.kp T.d__law_hold.b .nil pass0 (pa_cons (pv 1) (pa_cons pe_int pa_nil))))
        (pss_cons (ps_for PassesOwn.never rfl (pi_list (pe_lst (pa_cons (pe_tup (pa_cons (pe_tup (pa_cons pe_int (pa_cons pe_int pa_nil))) (pa_cons (pe_tup (pa_cons pe_int (pa_cons pe_int pa_nil))) pa_nil))) (pa_cons (pe_tup (pa_cons (pe_tup (pa_cons pe_int (pa_cons pe_int pa_nil))) (pa_cons (pe_tup (pa_cons pe_int (pa_cons pe_int pa_nil))) pa_nil))) (pa_cons (pe_tup (pa_cons (pe_tup (pa_cons pe_int pa_nil)) (pa_cons (pe_tup (pa_cons pe_int pa_nil)) pa_nil))) pa_nil))))) (pg_name (i := 6) sc_law.nd rfl (.inl rfl))
        (pss_one (ps_expr (pe_bm PySem.F.plainAttrs_list PySem.F.slot_list_append PySem.F.type_list_append mt_append (pv 3) (pa_cons (pe_tup (pa_cons pe_str (pa_cons (pv 5) (pa_cons (pv 6) pa_nil)))) pa_nil)))))
        (pss_cons (ps_set (i := 3) sc_law.nd rfl (.inl rfl) (pe_op op_cat (pv 3) (pe_lst (pa_cons pe_non (pa_cons pe_int (pa_cons pe_str (pa_cons (pe_tup (pa_cons pe_str pa_nil)) (pa_cons (pe_tup (pa_cons pe_str (pa_cons pe_int (pa_cons pe_int pa_nil)))) (pa_cons (pe_lst (pa_cons pe_str (pa_cons pe_int pa_nil))) (pa_cons (pe_tup (pa_cons pe_str (pa_cons pe_int pa_nil))) (pa_cons (pe_tup (pa_cons pe_int (pa_cons pe_int pa_nil))) (pa_cons pe_dnewK pa_nil))))))))))))
        (pss_cons (ps_set (i := 3) sc_law.nd rfl (.inl rfl) (pe_op op_cat (pv 3) (pe_lst (pa_cons (pe_tup (pa_cons pe_str (pa_cons (pe_tup pa_nil) pa_nil))) (pa_cons (pe_tup (pa_cons pe_str (pa_cons pe_int (pa_cons pe_int pa_nil)))) (pa_cons (pe_tup (pa_cons (pe_tup pa_nil) (pa_cons pe_int pa_nil))) (pa_cons (pe_tup (pa_cons (pe_lst (pa_cons pe_str pa_nil)) (pa_cons pe_int pa_nil))) pa_nil)))))))
        (pss_cons (ps_for PassesOwn.never rfl (pi_list (pv 3)) (pg_name (i := 4) sc_law.nd rfl (.inl rfl))
        (pss_one (ps_if (pt_not (pt_val (pe_callG G__law_right hgd (hr.mono (by decide)) (by rfl) T.d__law_right.g T.d__law_right.F.kp T.d__law_right.b (pa_cons (pv 2) (pa_cons (pv 4) pa_nil)))))
        (pss_one (ps_ret pe_bl))
        pss_nil)))
        (pss_one (ps_ret pe_bl))))))))))), ?_⟩
  refine ⟨.ref a, rfl, a, ns, rfl, hS, hlen, fun d g c H0 s0 nd ng nc D0 => ?_⟩
  refine ⟨.ref d, rfl, d, g, c, _, rfl, D0, by omega, fun p H1 hp D1 f1 => ?_⟩
  obtain ⟨p2, p13⟩ := prs_bd p hp
  refine ⟨.ref d, rfl, .int p, rfl, d, g, c, _, p, 10 ^ 40, rfl, D1, by omega, p2, p13, Nat.le_refl _, fun L xs H2 eL xl all nL D2 f2 => ?_⟩
  have big : sizeLine = 16777216 := by decide
  refine ⟨.ref L, rfl, L, xs, rfl, .inl (SqL.of eL), fun Z hZ => ?_⟩
  have nZ := D2.nd hZ
  have ZL : Z ≠ L := fun z => by
    rw [z, eL] at hZ
    cases hZ
  have s3 := same_upd (o := .lst xs) hZ
  have eZ : upd H2 Z (.lst xs) Z = some (.lst xs) := upd_same
  have all3 : ∀ x ∈ xs, TB (N3 d g L) (10 ^ 40) 160 3 (upd H2 Z (.lst xs)) x := fun x hx => (all x hx).fr (N3.al D2 eL) (.of_same s3)
  have D3 : Dk d g c 400 (upd H2 Z (.lst xs)) := (D2.same s3).mono (by omega)
  have eL3 := s3 _ _ eL
  generalize upd H2 Z (.lst xs) = H3 at s3 eZ all3 D3 eL3 ⊢
  refine ⟨Z, rfl, ⟨_, SqL.of eZ⟩, ?_⟩
  apply for_it (walk_list (xs := xs)) (fun i σ H' => ∃ v4 v7 ys, σ = [some (.ref a), some (.ref d), some (.int p), some (.ref L), v4, none, none, v7] ∧ Dk d g c (400 + 112 * i) H' ∧ H' Z = some (.lst xs) ∧ H' L = some (.lst ys) ∧ ys.length = 7 + 8 * i ∧ (∀ y ∈ ys, TB (N3 d g L) (10 ^ 40) 328 4 H' y) ∧ ∀ x ∈ xs, TB (N3 d g L) (10 ^ 40) 160 3 H' x) ⟨_, _, xs, rfl, D3.mono (by omega), eZ, eL3, xl, fun y hy => (all3 y hy).mono (Nat.le_refl _) (by decide) (by decide), all3⟩ (fun i σ H' _ h => by obtain ⟨_, _, _, _, _, h, _⟩ := h; exact SqL.of h)
  · rintro i y σ H4' H4 hi ⟨v4, v7, ys, rfl, D4, eZ4, eL4, yl, ally4, all4⟩ ⟨rfl, hy⟩
    have i7 : i < 7 := by omega
    have my := List.mem_of_getElem? hy
    simp only [List.set_cons_succ, List.set_cons_zero]
    refine ⟨8, rfl, by decide, by decide, for_range (n := 8) (fun j σ H' => ∃ v7 ys, σ = [some (.ref a), some (.ref d), some (.int p), some (.ref L), some y, none, none, v7] ∧ Dk d g c (400 + 112 * i + 14 * j) H' ∧ H' Z = some (.lst xs) ∧ H' L = some (.lst ys) ∧ ys.length = 7 + 8 * i + j ∧ (∀ y ∈ ys, TB (N3 d g L) (10 ^ 40) 328 4 H' y) ∧ ∀ x ∈ xs, TB (N3 d g L) (10 ^ 40) 160 3 H' x) ⟨_, ys, rfl, D4.mono (by omega), eZ4, eL4, yl, ally4, all4⟩ ?_ ?_⟩
    · rintro j σ H5 hj ⟨v7, zs, rfl, D5, eZ5, eL5, zl, ally5, all5⟩
      have O5 := N3.al D5 eL5
      refine ⟨.ref L, rfl, .inl ⟨rfl, _, SqL.of eL5⟩, .ref d, rfl, y, rfl, N3 d g L, d, g, c, _, y, 10 ^ 40, 160, rfl, D5, O5, by omega, all5 y my, by decide, Nat.le_refl _, by decide, fun z H6 tz D6 f6 => ?_⟩
      have eL6 := f6 _ _ nL.1 nL.2.1 eL5
      refine ⟨L, zs, z, rfl, rfl, eL6, small (by omega), ?_⟩
      have NL3 : N3 d g L L := .inr (.inr rfl)
      refine ⟨_, zs ++ [z], rfl, (D6.put nL.1 nL.2.1 nL.2.2).mono (by omega), by rw [upd_ne ZL]; exact f6 _ _ nZ.1 nZ.2.1 eZ5, upd_same, by rw [List.length_append, zl]; rfl, fun u hu => ?_, fun x hx => ((all5 x hx).fr O5 f6).put NL3⟩
      rcases List.mem_append.mp hu with h | h
      · exact ((ally5 u h).fr O5 f6).put NL3
      · rw [List.mem_singleton.mp h]
        exact tz.put NL3
    · rintro σ H5 ⟨v7, zs, rfl, D5, eZ5, eL5, zl, ally5, all5⟩
      exact ⟨_, _, zs, rfl, D5.mono (by omega), eZ5, eL5, by omega, ally5, all5⟩
  rintro σ H4 ⟨v4, v7, ys, rfl, D4, eZ4, eL4, yl, ally4, all4⟩
  refine ⟨.ref d, rfl, d, g, c, _, 2, rfl, D4, by (show _ + 112 * ((xs.length : Nat) : Int) ≤ _; rw [xl]; omega), by decide, fun th hs H5 h01 hl et D5 f5 => ?_⟩
  have O5 := (N3.al D4 eL4).fr D5 f5
  refine ⟨(by show 2 ≤ sizeLine; decide), fun q1 hq1 => ?_⟩
  have s5 := same_upd (o := .tup [.int 0, .int 1]) hq1
  have wq1 : TB (N3 d g L) (10 ^ 40) 2 1 (upd H5 q1 (.tup [.int 0, .int 1])) (.ref q1) := (TB.newT (xs := [.int 0, .int 1]) (m := 0) O5 hq1 ((.cons (n := 0) (.int (by decide)) (.cons (n := 0) (.int (by decide)) (.nil (n := 0)))))).mono (Nat.le_refl _) (by decide) (by decide)
  generalize upd H5 q1 (.tup [.int 0, .int 1]) = H6 at s5 wq1 ⊢
  have O6 := O5.same s5
  refine ⟨(by show 2 ≤ sizeLine; decide), fun q2 hq2 => ?_⟩
  have s6 := same_upd (o := .tup [.int 0, .int 0]) hq2
  have wq2 : TB (N3 d g L) (10 ^ 40) 2 1 (upd H6 q2 (.tup [.int 0, .int 0])) (.ref q2) := (TB.newT (xs := [.int 0, .int 0]) (m := 0) O6 hq2 ((.cons (n := 0) (.int (by decide)) (.cons (n := 0) (.int (by decide)) (.nil (n := 0)))))).mono (Nat.le_refl _) (by decide) (by decide)
  generalize upd H6 q2 (.tup [.int 0, .int 0]) = H7 at s6 wq2 ⊢
  have O7 := O6.same s6
  refine ⟨(by show 2 ≤ sizeLine; decide), fun t1 ht1 => ?_⟩
  have s7 := same_upd (o := .tup [.ref q1, .ref q2]) ht1
  have wt1 : TB (N3 d g L) (10 ^ 40) 6 2 (upd H7 t1 (.tup [.ref q1, .ref q2])) (.ref t1) := (TB.newT (xs := [.ref q1, .ref q2]) (m := 1) O7 ht1 ((.cons (n := 2) (wq1.fr O6 (.of_same s6)) (.cons (n := 2) wq2 (.nil (n := 0)))))).mono (Nat.le_refl _) (by decide) (by decide)
  generalize upd H7 t1 (.tup [.ref q1, .ref q2]) = H8 at s7 wt1 ⊢
  have O8 := O7.same s7
  refine ⟨(by show 2 ≤ sizeLine; decide), fun q3 hq3 => ?_⟩
  have s8 := same_upd (o := .tup [.int 0, .int 1]) hq3
  have wq3 : TB (N3 d g L) (10 ^ 40) 2 1 (upd H8 q3 (.tup [.int 0, .int 1])) (.ref q3) := (TB.newT (xs := [.int 0, .int 1]) (m := 0) O8 hq3 ((.cons (n := 0) (.int (by decide)) (.cons (n := 0) (.int (by decide)) (.nil (n := 0)))))).mono (Nat.le_refl _) (by decide) (by decide)
  generalize upd H8 q3 (.tup [.int 0, .int 1]) = H9 at s8 wq3 ⊢
  have O9 := O8.same s8
  refine ⟨(by show 2 ≤ sizeLine; decide), fun q4 hq4 => ?_⟩
  have s9 := same_upd (o := .tup [.int 1, .int 0]) hq4
  have wq4 : TB (N3 d g L) (10 ^ 40) 2 1 (upd H9 q4 (.tup [.int 1, .int 0])) (.ref q4) := (TB.newT (xs := [.int 1, .int 0]) (m := 0) O9 hq4 ((.cons (n := 0) (.int (by decide)) (.cons (n := 0) (.int (by decide)) (.nil (n := 0)))))).mono (Nat.le_refl _) (by decide) (by decide)
  generalize upd H9 q4 (.tup [.int 1, .int 0]) = H10 at s9 wq4 ⊢
  have O10 := O9.same s9
  refine ⟨(by show 2 ≤ sizeLine; decide), fun t2 ht2 => ?_⟩
  have s10 := same_upd (o := .tup [.ref q3, .ref q4]) ht2
  have wt2 : TB (N3 d g L) (10 ^ 40) 6 2 (upd H10 t2 (.tup [.ref q3, .ref q4])) (.ref t2) := (TB.newT (xs := [.ref q3, .ref q4]) (m := 1) O10 ht2 ((.cons (n := 2) (wq3.fr O9 (.of_same s9)) (.cons (n := 2) wq4 (.nil (n := 0)))))).mono (Nat.le_refl _) (by decide) (by decide)
  generalize upd H10 t2 (.tup [.ref q3, .ref q4]) = H11 at s10 wt2 ⊢
  have O11 := O10.same s10
  refine ⟨(by show 1 ≤ sizeLine; decide), fun q5 hq5 => ?_⟩
  have s11 := same_upd (o := .tup [.int 0]) hq5
  have wq5 : TB (N3 d g L) (10 ^ 40) 2 1 (upd H11 q5 (.tup [.int 0])) (.ref q5) := (TB.newT (xs := [.int 0]) (m := 0) O11 hq5 ((.cons (n := 0) (.int (by decide)) (.nil (n := 0))))).mono (Nat.le_refl _) (by decide) (by decide)
  generalize upd H11 q5 (.tup [.int 0]) = H12 at s11 wq5 ⊢
  have O12 := O11.same s11
  refine ⟨(by show 1 ≤ sizeLine; decide), fun q6 hq6 => ?_⟩
  have s12 := same_upd (o := .tup [.int 0]) hq6
  have wq6 : TB (N3 d g L) (10 ^ 40) 2 1 (upd H12 q6 (.tup [.int 0])) (.ref q6) := (TB.newT (xs := [.int 0]) (m := 0) O12 hq6 ((.cons (n := 0) (.int (by decide)) (.nil (n := 0))))).mono (Nat.le_refl _) (by decide) (by decide)
  generalize upd H12 q6 (.tup [.int 0]) = H13 at s12 wq6 ⊢
  have O13 := O12.same s12
  refine ⟨(by show 2 ≤ sizeLine; decide), fun t3 ht3 => ?_⟩
  have s13 := same_upd (o := .tup [.ref q5, .ref q6]) ht3
  have wt3 : TB (N3 d g L) (10 ^ 40) 6 2 (upd H13 t3 (.tup [.ref q5, .ref q6])) (.ref t3) := (TB.newT (xs := [.ref q5, .ref q6]) (m := 1) O13 ht3 ((.cons (n := 2) (wq5.fr O12 (.of_same s12)) (.cons (n := 2) wq6 (.nil (n := 0)))))).mono (Nat.le_refl _) (by decide) (by decide)
  generalize upd H13 t3 (.tup [.ref q5, .ref q6]) = H14 at s13 wt3 ⊢
  have O14 := O13.same s13
  refine ⟨(by show 3 ≤ sizeLine; decide), fun R hR => ?_⟩
  have s14 := same_upd (o := .lst [.ref t1, .ref t2, .ref t3]) hR
  have c5 := s5.trans (s6.trans (s7.trans (s8.trans (s9.trans (s10.trans (s11.trans (s12.trans (s13.trans s14))))))))
  have eR : upd H14 R (.lst [.ref t1, .ref t2, .ref t3]) R = some (.lst [.ref t1, .ref t2, .ref t3]) := upd_same
  have eL5 := f5 _ _ nL.1 nL.2.1 eL4
  have RL : R ≠ L := fun z => by
    have := (s5.trans (s6.trans (s7.trans (s8.trans (s9.trans (s10.trans (s11.trans (s12.trans s13)))))))) _ _ eL5
    rw [z, this] at hR
    cases hR
  have D15 := D5.same c5
  have nth := D5.nt et
  have wth : TB (N3 d g L) (10 ^ 40) 2 2 H5 (.ref th) := (TB.tupOf (m := 0) et (O5.nt et) (TBs.ints fun n hn => by rcases h01 n hn with rfl | rfl <;> decide)).mono (Nat.le_refl _) (by omega) (by decide)
  have wth15 := wth.fr (d := d) (g := g) O5 (.of_same c5)
  have ally15 : ∀ y ∈ ys, TB (N3 d g L) (10 ^ 40) 328 4 _ y := fun y hy => ((ally4 y hy).fr (N3.al D4 eL4) f5).fr (d := d) (g := g) O5 (.of_same c5)
  have w3 : ∀ x ∈ [V.ref t1, .ref t2, .ref t3], TB (N3 d g L) (10 ^ 40) 6 2 (upd H14 R (.lst [.ref t1, .ref t2, .ref t3])) x := by
    intro x hx
    simp only [List.mem_cons, List.not_mem_nil, or_false] at hx
    rcases hx with rfl | rfl | rfl
    · exact wt1.fr O8 (.of_same (s8.trans (s9.trans (s10.trans (s11.trans (s12.trans (s13.trans s14)))))))
    · exact wt2.fr O11 (.of_same (s11.trans (s12.trans (s13.trans s14))))
    · exact wt3.fr O14 (.of_same s14)
  have eL15 := c5 _ _ eL5
  have nR := (D5.same (s5.trans (s6.trans (s7.trans (s8.trans (s9.trans (s10.trans (s11.trans (s12.trans s13))))))))).nd hR
  have yl2 : ys.length = 63 := by rw [yl, xl]
  generalize upd H14 R (.lst [.ref t1, .ref t2, .ref t3]) = H15 at s14 c5 eR D15 wth15 ally15 w3 eL15 ⊢
  refine ⟨R, rfl, ⟨_, SqL.of eR⟩, ?_⟩
  apply for_it (walk_list (xs := [.ref t1, .ref t2, .ref t3])) (fun i σ H' => ∃ v6 zs, σ = [some (.ref a), some (.ref d), some (.int p), some (.ref L), v4, some (.ref th), v6, v7] ∧ H' R = some (.lst [.ref t1, .ref t2, .ref t3]) ∧ AlN (N3 d g L) d g H' ∧ H' L = some (.lst zs) ∧ zs.length = 63 + i ∧ (∀ y ∈ zs, TB (N3 d g L) (10 ^ 40) 328 4 H' y) ∧ TB (N3 d g L) (10 ^ 40) 2 2 H' (.ref th) ∧ ∀ x ∈ [V.ref t1, .ref t2, .ref t3], TB (N3 d g L) (10 ^ 40) 6 2 H' x) ⟨_, ys, rfl, eR, N3.al D15 eL15, eL15, yl2, ally15, wth15, w3⟩ (fun i σ H' _ h => by obtain ⟨_, _, _, h, _⟩ := h; exact SqL.of h)
  · rintro i y σ H6' H6 hi ⟨v6, zs, rfl, eR6, O6', eL6, zl, ally6, wth6, w36⟩ ⟨rfl, hy⟩
    have i3 : i < 3 := hi
    have my := List.mem_of_getElem? hy
    simp only [List.set_cons_succ, List.set_cons_zero]
    have NL3 : N3 d g L L := .inr (.inr rfl)
    refine ⟨.ref L, rfl, .inl ⟨rfl, _, SqL.of eL6⟩, .ref th, rfl, y, rfl, (by show 3 ≤ sizeLine; decide), fun q9 hq9 => ?_⟩
    have s8' := same_upd (o := .tup [.str ("table" : Str), .ref th, y]) hq9
    have w9 : TB (N3 d g L) (10 ^ 40) 328 4 (upd H6 q9 (.tup [.str ("table" : Str), .ref th, y])) (.ref q9) := (TB.newT (xs := [.str ("table" : Str), .ref th, y]) (m := 2) O6' hq9 (.cons (n := 5) (.str (by decide) (by decide)) (.cons (n := 2) wth6 (.cons (n := 6) (w36 y my) (.nil (n := 0)))))).mono (Nat.le_refl _) (by decide) (by decide)
    refine ⟨L, zs, .ref q9, rfl, rfl, s8' _ _ eL6, small (by omega), ?_⟩
    refine ⟨_, zs ++ [.ref q9], rfl, by rw [upd_ne RL]; exact s8' _ _ eR6, (O6'.same s8').putL, upd_same, by rw [List.length_append, zl]; rfl, fun u hu => ?_, (wth6.fr O6' (.of_same s8')).put NL3, fun x hx => ((w36 x hx).fr O6' (.of_same s8')).put NL3⟩
    rcases List.mem_append.mp hu with h | h
    · exact ((ally6 u h).fr O6' (.of_same s8')).put NL3
    · rw [List.mem_singleton.mp h]
      exact w9.put NL3
  rintro σ H6 ⟨v6, zs, rfl, eR6, O6', eL6, zl, ally6, wth6, w36⟩
  refine ⟨.ref L, rfl, ?_⟩
  refine ⟨(by show _ ≤ 16777216; decide), fun u1 hu1 => ?_⟩
  have z6 := same_upd (o := (.tup [.str ("spring" : Str)])) hu1
  have wu1 : TB (N3 d g L) (10 ^ 40) 20 3 (upd H6 u1 (.tup [.str ("spring" : Str)])) (.ref u1) := (TB.newT (xs := [.str ("spring" : Str)]) (m := 0) O6' hu1 ((.cons (n := 6) (.str (by decide) (by decide)) (.nil (n := 0))))).mono (Nat.le_refl _) (by decide) (by decide)
  generalize upd H6 u1 (.tup [.str ("spring" : Str)]) = K7 at z6 wu1 ⊢
  have U7 := O6'.same z6
  refine ⟨(by show _ ≤ 16777216; decide), fun u2 hu2 => ?_⟩
  have z7 := same_upd (o := (.tup [.str ("spring" : Str), .int 0, .int 0])) hu2
  have wu2 : TB (N3 d g L) (10 ^ 40) 20 3 (upd K7 u2 (.tup [.str ("spring" : Str), .int 0, .int 0])) (.ref u2) := (TB.newT (xs := [.str ("spring" : Str), .int 0, .int 0]) (m := 0) U7 hu2 ((.cons (n := 6) (.str (by decide) (by decide)) (.cons (n := 0) (.int (by decide)) (.cons (n := 0) (.int (by decide)) (.nil (n := 0))))))).mono (Nat.le_refl _) (by decide) (by decide)
  generalize upd K7 u2 (.tup [.str ("spring" : Str), .int 0, .int 0]) = K8 at z7 wu2 ⊢
  have U8 := U7.same z7
  refine ⟨(by show _ ≤ 16777216; decide), fun u3 hu3 => ?_⟩
  have z8 := same_upd (o := (.lst [.str ("spring" : Str), .int 0])) hu3
  have wu3 : TB (N3 d g L) (10 ^ 40) 20 3 (upd K8 u3 (.lst [.str ("spring" : Str), .int 0])) (.ref u3) := (TB.newL (xs := [.str ("spring" : Str), .int 0]) (m := 0) U8 hu3 ((.cons (n := 6) (.str (by decide) (by decide)) (.cons (n := 0) (.int (by decide)) (.nil (n := 0)))))).mono (Nat.le_refl _) (by decide) (by decide)
  generalize upd K8 u3 (.lst [.str ("spring" : Str), .int 0]) = K9 at z8 wu3 ⊢
  have U9 := U8.same z8
  refine ⟨(by show _ ≤ 16777216; decide), fun u4 hu4 => ?_⟩
  have z9 := same_upd (o := (.tup [.str ("Spring" : Str), .int 0])) hu4
  have wu4 : TB (N3 d g L) (10 ^ 40) 20 3 (upd K9 u4 (.tup [.str ("Spring" : Str), .int 0])) (.ref u4) := (TB.newT (xs := [.str ("Spring" : Str), .int 0]) (m := 0) U9 hu4 ((.cons (n := 6) (.str (by decide) (by decide)) (.cons (n := 0) (.int (by decide)) (.nil (n := 0)))))).mono (Nat.le_refl _) (by decide) (by decide)
  generalize upd K9 u4 (.tup [.str ("Spring" : Str), .int 0]) = K10 at z9 wu4 ⊢
  have U10 := U9.same z9
  refine ⟨(by show _ ≤ 16777216; decide), fun u5 hu5 => ?_⟩
  have z10 := same_upd (o := (.tup [.int 5, .int 0])) hu5
  have wu5 : TB (N3 d g L) (10 ^ 40) 20 3 (upd K10 u5 (.tup [.int 5, .int 0])) (.ref u5) := (TB.newT (xs := [.int 5, .int 0]) (m := 0) U10 hu5 ((.cons (n := 0) (.int (by decide)) (.cons (n := 0) (.int (by decide)) (.nil (n := 0)))))).mono (Nat.le_refl _) (by decide) (by decide)
  generalize upd K10 u5 (.tup [.int 5, .int 0]) = K11 at z10 wu5 ⊢
  have U11 := U10.same z10
  intro u6 hu6
  have z11 := same_upd (o := (.dK [])) hu6
  have wu6 : TB (N3 d g L) (10 ^ 40) 20 3 (upd K11 u6 (.dK [])) (.ref u6) := (TB.newD (m := 0) (n := 0) U11 hu6).mono (Nat.le_refl _) (by decide) (by decide)
  generalize upd K11 u6 (.dK []) = K12 at z11 wu6 ⊢
  have U12 := U11.same z11
  refine ⟨(by show 9 ≤ sizeLine; decide), fun l1 hl1 => ?_⟩
  have nl1 := U12.nd hl1
  have z12 := same_upd (o := .lst [.non, .int 5, .str ("spring" : Str), .ref u1, .ref u2, .ref u3, .ref u4, .ref u5, .ref u6]) hl1
  have el1 : upd K12 l1 (.lst [.non, .int 5, .str ("spring" : Str), .ref u1, .ref u2, .ref u3, .ref u4, .ref u5, .ref u6]) l1 = some (.lst [.non, .int 5, .str ("spring" : Str), .ref u1, .ref u2, .ref u3, .ref u4, .ref u5, .ref u6]) := upd_same
  generalize upd K12 l1 (.lst [.non, .int 5, .str ("spring" : Str), .ref u1, .ref u2, .ref u3, .ref u4, .ref u5, .ref u6]) = K13 at z12 el1 ⊢
  have U13 := U12.same z12
  have c11 := z11.trans z12
  have c10 := z10.trans c11
  have c9 := z9.trans c10
  have c8 := z8.trans c9
  have c7 := z7.trans c8
  have c6 := z6.trans c7
  have eL13 := c6 _ _ eL6
  refine ⟨L, l1, zs, _, rfl, rfl, eL13, el1, (by rw [zl]; show 63 + 3 + 9 ≤ 16777216; decide), fun Y hY => ?_⟩
  have zY := same_upd (o := .lst (zs ++ [V.non, .int 5, .str ("spring" : Str), .ref u1, .ref u2, .ref u3, .ref u4, .ref u5, .ref u6])) hY
  have allY : ∀ u ∈ zs ++ [.non, .int 5, .str ("spring" : Str), .ref u1, .ref u2, .ref u3, .ref u4, .ref u5, .ref u6], TB (N3 d g L) (10 ^ 40) 328 4 K13 u := by
    intro u hu
    rcases List.mem_append.mp hu with h | h
    · exact (ally6 u h).fr O6' (.of_same c6)
    · simp only [List.mem_cons, List.not_mem_nil, or_false] at h
      rcases h with rfl | rfl | rfl | rfl | rfl | rfl | rfl | rfl | rfl
      · exact .non
      · exact .int (by decide)
      · exact .str (by decide) (by decide)
      · exact (wu1.fr U7 (.of_same c7)).mono (Nat.le_refl _) (by decide) (by decide)
      · exact (wu2.fr U8 (.of_same c8)).mono (Nat.le_refl _) (by decide) (by decide)
      · exact (wu3.fr U9 (.of_same c9)).mono (Nat.le_refl _) (by decide) (by decide)
      · exact (wu4.fr U10 (.of_same c10)).mono (Nat.le_refl _) (by decide) (by decide)
      · exact (wu5.fr U11 (.of_same c11)).mono (Nat.le_refl _) (by decide) (by decide)
      · exact (wu6.fr U12 (.of_same z12)).mono (Nat.le_refl _) (by decide) (by decide)
  have eY : upd K13 Y (.lst (zs ++ [V.non, .int 5, .str ("spring" : Str), .ref u1, .ref u2, .ref u3, .ref u4, .ref u5, .ref u6])) Y = some (.lst (zs ++ [V.non, .int 5, .str ("spring" : Str), .ref u1, .ref u2, .ref u3, .ref u4, .ref u5, .ref u6])) := upd_same
  have Wl : (zs ++ [V.non, .int 5, .str ("spring" : Str), .ref u1, .ref u2, .ref u3, .ref u4, .ref u5, .ref u6]).length = 75 := by
    rw [List.length_append, zl]
    rfl
  have allW : ∀ u ∈ (zs ++ [V.non, .int 5, .str ("spring" : Str), .ref u1, .ref u2, .ref u3, .ref u4, .ref u5, .ref u6]), TB (N3 d g L) (10 ^ 40) 328 4 (upd K13 Y (.lst (zs ++ [V.non, .int 5, .str ("spring" : Str), .ref u1, .ref u2, .ref u3, .ref u4, .ref u5, .ref u6]))) u := fun u hu => (allY u hu).fr U13 (.of_same zY)
  have V0 := U13.same zY
  clear allY
  generalize (zs ++ [V.non, .int 5, .str ("spring" : Str), .ref u1, .ref u2, .ref u3, .ref u4, .ref u5, .ref u6]) = ws at zY eY Wl allW V0 ⊢
  generalize upd K13 Y (.lst ws) = J0 at zY eY allW V0 ⊢
  simp only [gName, List.set_cons_succ, List.set_cons_zero]
  refine ⟨.ref Y, rfl, ?_⟩
  refine ⟨(by show _ ≤ 16777216; decide), fun x1 hx1 => ?_⟩
  have r0 := same_upd (o := (.tup [])) hx1
  have wx1 : TB (N3 d g L) (10 ^ 40) 20 1 (upd J0 x1 (.tup [])) (.ref x1) := (TB.newT (xs := []) (m := 0) V0 hx1 (.nil (n := 0))).mono (Nat.le_refl _) (by decide) (by decide)
  generalize upd J0 x1 (.tup []) = J1 at r0 wx1 ⊢
  have V1 := V0.same r0
  refine ⟨(by show 2 ≤ 16777216; decide), fun y1 hy1 => ?_⟩
  have r1 := same_upd (o := (.tup [.str ("table" : Str), .ref x1])) hy1
  have wy1 : TB (N3 d g L) (10 ^ 40) 100 2 (upd J1 y1 (.tup [.str ("table" : Str), .ref x1])) (.ref y1) := (TB.newT (xs := [.str ("table" : Str), .ref x1]) (m := 1) V1 hy1 (.cons (n := 5) (.str (by decide) (by decide)) (.cons (n := 20) wx1 (.nil (n := 0))))).mono (Nat.le_refl _) (by decide) (by decide)
  generalize upd J1 y1 (.tup [.str ("table" : Str), .ref x1]) = J2 at r1 wy1 ⊢
  have V2 := V1.same r1
  refine ⟨(by show _ ≤ 16777216; decide), fun y2 hy2 => ?_⟩
  have r2 := same_upd (o := (.tup [.str ("table" : Str), .int 0, .int 0])) hy2
  have wy2 : TB (N3 d g L) (10 ^ 40) 100 2 (upd J2 y2 (.tup [.str ("table" : Str), .int 0, .int 0])) (.ref y2) := (TB.newT (xs := [.str ("table" : Str), .int 0, .int 0]) (m := 0) V2 hy2 (.cons (n := 5) (.str (by decide) (by decide)) (.cons (n := 0) (.int (by decide)) (.cons (n := 0) (.int (by decide)) (.nil (n := 0)))))).mono (Nat.le_refl _) (by decide) (by decide)
  generalize upd J2 y2 (.tup [.str ("table" : Str), .int 0, .int 0]) = J3 at r2 wy2 ⊢
  have V3 := V2.same r2
  refine ⟨(by show _ ≤ 16777216; decide), fun x3 hx3 => ?_⟩
  have r3 := same_upd (o := (.tup [])) hx3
  have wx3 : TB (N3 d g L) (10 ^ 40) 20 1 (upd J3 x3 (.tup [])) (.ref x3) := (TB.newT (xs := []) (m := 0) V3 hx3 (.nil (n := 0))).mono (Nat.le_refl _) (by decide) (by decide)
  generalize upd J3 x3 (.tup []) = J4 at r3 wx3 ⊢
  have V4 := V3.same r3
  refine ⟨(by show 2 ≤ 16777216; decide), fun y3 hy3 => ?_⟩
  have r4 := same_upd (o := (.tup [.ref x3, .int 0])) hy3
  have wy3 : TB (N3 d g L) (10 ^ 40) 100 2 (upd J4 y3 (.tup [.ref x3, .int 0])) (.ref y3) := (TB.newT (xs := [.ref x3, .int 0]) (m := 1) V4 hy3 (.cons (n := 20) wx3 (.cons (n := 0) (.int (by decide)) (.nil (n := 0))))).mono (Nat.le_refl _) (by decide) (by decide)
  generalize upd J4 y3 (.tup [.ref x3, .int 0]) = J5 at r4 wy3 ⊢
  have V5 := V4.same r4
  refine ⟨(by show _ ≤ 16777216; decide), fun x4 hx4 => ?_⟩
  have r5 := same_upd (o := (.lst [.str ("spring" : Str)])) hx4
  have wx4 : TB (N3 d g L) (10 ^ 40) 20 1 (upd J5 x4 (.lst [.str ("spring" : Str)])) (.ref x4) := (TB.newL (xs := [.str ("spring" : Str)]) (m := 0) V5 hx4 (.cons (n := 6) (.str (by decide) (by decide)) (.nil (n := 0)))).mono (Nat.le_refl _) (by decide) (by decide)
  generalize upd J5 x4 (.lst [.str ("spring" : Str)]) = J6 at r5 wx4 ⊢
  have V6 := V5.same r5
  refine ⟨(by show 2 ≤ 16777216; decide), fun y4 hy4 => ?_⟩
  have r6 := same_upd (o := (.tup [.ref x4, .int 0])) hy4
  have wy4 : TB (N3 d g L) (10 ^ 40) 100 2 (upd J6 y4 (.tup [.ref x4, .int 0])) (.ref y4) := (TB.newT (xs := [.ref x4, .int 0]) (m := 1) V6 hy4 (.cons (n := 20) wx4 (.cons (n := 0) (.int (by decide)) (.nil (n := 0))))).mono (Nat.le_refl _) (by decide) (by decide)
  generalize upd J6 y4 (.tup [.ref x4, .int 0]) = J7 at r6 wy4 ⊢
  have V7 := V6.same r6
  refine ⟨(by show 4 ≤ sizeLine; decide), fun l2 hl2 => ?_⟩
  have r7 := same_upd (o := .lst [.ref y1, .ref y2, .ref y3, .ref y4]) hl2
  have el2 : upd J7 l2 (.lst [.ref y1, .ref y2, .ref y3, .ref y4]) l2 = some (.lst [.ref y1, .ref y2, .ref y3, .ref y4]) := upd_same
  generalize upd J7 l2 (.lst [.ref y1, .ref y2, .ref y3, .ref y4]) = J8 at r7 el2 ⊢
  have V8 := V7.same r7
  have q6 := r6.trans r7
  have q5 := r5.trans q6
  have q4 := r4.trans q5
  have q3 := r3.trans q4
  have q2 := r2.trans q3
  have q1' := r1.trans q2
  have q0 := r0.trans q1'
  have eY8 := q0 _ _ eY
  refine ⟨Y, l2, ws, _, rfl, rfl, eY8, el2, (by rw [Wl]; show 75 + 4 ≤ 16777216; decide), fun F hF => ?_⟩
  have sF := same_upd (o := .lst (ws ++ [.ref y1, .ref y2, .ref y3, .ref y4])) hF
  have eF : upd J8 F (.lst (ws ++ [.ref y1, .ref y2, .ref y3, .ref y4])) F = some (.lst (ws ++ [.ref y1, .ref y2, .ref y3, .ref y4])) := upd_same
  have allF : ∀ u ∈ ws ++ [.ref y1, .ref y2, .ref y3, .ref y4], TB (N3 d g L) (10 ^ 40) 328 4 (upd J8 F (.lst (ws ++ [.ref y1, .ref y2, .ref y3, .ref y4]))) u := by
    intro u hu
    refine TB.fr (d := d) (g := g) (H := J8) ?_ V8 (.of_same sF)
    rcases List.mem_append.mp hu with h | h
    · exact (allW u h).fr V0 (.of_same q0)
    · simp only [List.mem_cons, List.not_mem_nil, or_false] at h
      rcases h with rfl | rfl | rfl | rfl
      · exact (wy1.fr V2 (.of_same q2)).mono (Nat.le_refl _) (by decide) (by decide)
      · exact (wy2.fr V3 (.of_same q3)).mono (Nat.le_refl _) (by decide) (by decide)
      · exact (wy3.fr V5 (.of_same q5)).mono (Nat.le_refl _) (by decide) (by decide)
      · exact (wy4.fr V7 (.of_same r7)).mono (Nat.le_refl _) (by decide) (by decide)
  have V9 := V8.same sF
  generalize ws ++ [V.ref y1, .ref y2, .ref y3, .ref y4] = fs at sF eF allF V9 ⊢
  generalize upd J8 F (.lst fs) = J9 at sF eF allF V9 ⊢
  simp only [gName, List.set_cons_succ, List.set_cons_zero]
  refine ⟨.ref F, rfl, F, rfl, ⟨_, SqL.of eF⟩, ?_⟩
  apply for_it (walk_list (xs := fs)) (fun i σ H' => ∃ v4, σ = [some (.ref a), some (.ref d), some (.int p), some (.ref F), v4, some (.ref th), v6, v7] ∧ Same J9 H') ⟨_, rfl, Same.refl _⟩ (fun i σ H' _ h => by obtain ⟨_, _, h⟩ := h; exact SqL.of (h _ _ eF))
  · rintro i y σ M M' hi ⟨v4', rfl, sM⟩ ⟨rfl, hy⟩
    obtain ⟨dd, hd, gb⟩ := ((allF y (List.mem_of_getElem? hy)).fr (d := d) (g := g) V9 (.of_same sM)).dq
    simp only [gName, List.set_cons_succ, List.set_cons_zero]
    refine ⟨.int p, rfl, y, rfl, p, y, dd, 10 ^ 40, rfl, by omega, p13, hd, gb.mono (Nat.le_refl _) (by decide) (by decide), by decide, fun M2 s2 => ⟨true, rfl, ?_⟩⟩
    exact ⟨_, rfl, sM.trans s2⟩
  · rintro σ M ⟨v4', rfl, sM⟩
    rfl
end
-- CUT
/-! what the top has written -/
set_option maxHeartbeats 4000000 in
theorem all_mk {l : PySem.W.OpenLaw} {w : World} {K : PySem.W.Frag} {h : Heap} {mg : Str → Option Value} {fa : Addr} (X : K.In h) (G : h.Ns mainGlobals mg) (hfa : mg "law" = some (.ref fa))
    {f_is_whole : Addr} {od_is_whole an_is_whole : Option Addr} {sl_is_whole : Array (Option Value)} {oc_is_whole kV_is_whole dc_is_whole pm_is_whole cd_is_whole ct_is_whole : Value}
    {f_is_round : Addr} {od_is_round an_is_round : Option Addr} {sl_is_round : Array (Option Value)} {oc_is_round kV_is_round dc_is_round pm_is_round cd_is_round ct_is_round : Value}
    {f_are_numbers : Addr} {od_are_numbers an_are_numbers : Option Addr} {sl_are_numbers : Array (Option Value)} {oc_are_numbers kV_are_numbers dc_are_numbers pm_are_numbers cd_are_numbers ct_are_numbers : Value}
    {f_is_square : Addr} {od_is_square an_is_square : Option Addr} {sl_is_square : Array (Option Value)} {oc_is_square kV_is_square dc_is_square pm_is_square cd_is_square ct_is_square : Value}
    {f_is_table : Addr} {od_is_table an_is_table : Option Addr} {sl_is_table : Array (Option Value)} {oc_is_table kV_is_table dc_is_table pm_is_table cd_is_table ct_is_table : Value}
    {f_is_hold : Addr} {od_is_hold an_is_hold : Option Addr} {sl_is_hold : Array (Option Value)} {oc_is_hold kV_is_hold dc_is_hold pm_is_hold cd_is_hold ct_is_hold : Value}
    {f_is_table_gadget : Addr} {od_is_table_gadget an_is_table_gadget : Option Addr} {sl_is_table_gadget : Array (Option Value)} {oc_is_table_gadget kV_is_table_gadget dc_is_table_gadget pm_is_table_gadget cd_is_table_gadget ct_is_table_gadget : Value}
    {f_is_gadget : Addr} {od_is_gadget an_is_gadget : Option Addr} {sl_is_gadget : Array (Option Value)} {oc_is_gadget kV_is_gadget dc_is_gadget pm_is_gadget cd_is_gadget ct_is_gadget : Value}
    {f__law_deck : Addr} {od__law_deck an__law_deck : Option Addr} {sl__law_deck : Array (Option Value)} {oc__law_deck kV__law_deck dc__law_deck pm__law_deck cd__law_deck ct__law_deck : Value}
    {f__law_next : Addr} {od__law_next an__law_next : Option Addr} {sl__law_next : Array (Option Value)} {oc__law_next kV__law_next dc__law_next pm__law_next cd__law_next ct__law_next : Value}
    {f__law_prime : Addr} {od__law_prime an__law_prime : Option Addr} {sl__law_prime : Array (Option Value)} {oc__law_prime kV__law_prime dc__law_prime pm__law_prime cd__law_prime ct__law_prime : Value}
    {f__law_hold : Addr} {od__law_hold an__law_hold : Option Addr} {sl__law_hold : Array (Option Value)} {oc__law_hold kV__law_hold dc__law_hold pm__law_hold cd__law_hold ct__law_hold : Value}
    {f__law_table : Addr} {od__law_table an__law_table : Option Addr} {sl__law_table : Array (Option Value)} {oc__law_table kV__law_table dc__law_table pm__law_table cd__law_table ct__law_table : Value}
    {f__law_is_from : Addr} {od__law_is_from an__law_is_from : Option Addr} {sl__law_is_from : Array (Option Value)} {oc__law_is_from kV__law_is_from dc__law_is_from pm__law_is_from cd__law_is_from ct__law_is_from : Value}
    {f__law_are_from : Addr} {od__law_are_from an__law_are_from : Option Addr} {sl__law_are_from : Array (Option Value)} {oc__law_are_from kV__law_are_from dc__law_are_from pm__law_are_from cd__law_are_from ct__law_are_from : Value}
    {f__law_is_table : Addr} {od__law_is_table an__law_is_table : Option Addr} {sl__law_is_table : Array (Option Value)} {oc__law_is_table kV__law_is_table dc__law_is_table pm__law_is_table cd__law_is_table ct__law_is_table : Value}
    {f__law_due : Addr} {od__law_due an__law_due : Option Addr} {sl__law_due : Array (Option Value)} {oc__law_due kV__law_due dc__law_due pm__law_due cd__law_due ct__law_due : Value}
    {f__law_spoilt : Addr} {od__law_spoilt an__law_spoilt : Option Addr} {sl__law_spoilt : Array (Option Value)} {oc__law_spoilt kV__law_spoilt dc__law_spoilt pm__law_spoilt cd__law_spoilt ct__law_spoilt : Value}
    {f__law_gadgets : Addr} {od__law_gadgets an__law_gadgets : Option Addr} {sl__law_gadgets : Array (Option Value)} {oc__law_gadgets kV__law_gadgets dc__law_gadgets pm__law_gadgets cd__law_gadgets ct__law_gadgets : Value}
    {f__law_right : Addr} {od__law_right an__law_right : Option Addr} {sl__law_right : Array (Option Value)} {oc__law_right kV__law_right dc__law_right pm__law_right cd__law_right ct__law_right : Value}
    {f_law : Addr} {od_law an_law : Option Addr} {sl_law : Array (Option Value)} {oc_law kV_law dc_law pm_law cd_law ct_law : Value}
    {t_POSTS : Tok}
    (a_is_whole : PySem.W.nsIn K mainGlobals "is_whole" = some (some (.ref f_is_whole))) (l_is_whole : K.lookup f_is_whole = some ⟨oc_is_whole, od_is_whole, .func (PySem.W.fnOf "is_whole" "is_whole" (defArgs s_is_whole) (defBody s_is_whole) (defScope s_is_whole) .none kV_is_whole dc_is_whole pm_is_whole an_is_whole cd_is_whole ct_is_whole), sl_is_whole⟩) (c_is_whole : PySem.W.codeIn K cd_is_whole "is_whole" = true) (k_is_whole : PySem.W.keepIn K (.ref f_is_whole) = true)
    (a_is_round : PySem.W.nsIn K mainGlobals "is_round" = some (some (.ref f_is_round))) (l_is_round : K.lookup f_is_round = some ⟨oc_is_round, od_is_round, .func (PySem.W.fnOf "is_round" "is_round" (defArgs s_is_round) (defBody s_is_round) (defScope s_is_round) .none kV_is_round dc_is_round pm_is_round an_is_round cd_is_round ct_is_round), sl_is_round⟩) (c_is_round : PySem.W.codeIn K cd_is_round "is_round" = true) (k_is_round : PySem.W.keepIn K (.ref f_is_round) = true)
    (a_are_numbers : PySem.W.nsIn K mainGlobals "are_numbers" = some (some (.ref f_are_numbers))) (l_are_numbers : K.lookup f_are_numbers = some ⟨oc_are_numbers, od_are_numbers, .func (PySem.W.fnOf "are_numbers" "are_numbers" (defArgs s_are_numbers) (defBody s_are_numbers) (defScope s_are_numbers) .none kV_are_numbers dc_are_numbers pm_are_numbers an_are_numbers cd_are_numbers ct_are_numbers), sl_are_numbers⟩) (c_are_numbers : PySem.W.codeIn K cd_are_numbers "are_numbers" = true) (k_are_numbers : PySem.W.keepIn K (.ref f_are_numbers) = true)
    (a_is_square : PySem.W.nsIn K mainGlobals "is_square" = some (some (.ref f_is_square))) (l_is_square : K.lookup f_is_square = some ⟨oc_is_square, od_is_square, .func (PySem.W.fnOf "is_square" "is_square" (defArgs s_is_square) (defBody s_is_square) (defScope s_is_square) .none kV_is_square dc_is_square pm_is_square an_is_square cd_is_square ct_is_square), sl_is_square⟩) (c_is_square : PySem.W.codeIn K cd_is_square "is_square" = true) (k_is_square : PySem.W.keepIn K (.ref f_is_square) = true)
    (a_is_table : PySem.W.nsIn K mainGlobals "is_table" = some (some (.ref f_is_table))) (l_is_table : K.lookup f_is_table = some ⟨oc_is_table, od_is_table, .func (PySem.W.fnOf "is_table" "is_table" (defArgs s_is_table) (defBody s_is_table) (defScope s_is_table) .none kV_is_table dc_is_table pm_is_table an_is_table cd_is_table ct_is_table), sl_is_table⟩) (c_is_table : PySem.W.codeIn K cd_is_table "is_table" = true) (k_is_table : PySem.W.keepIn K (.ref f_is_table) = true)
    (a_is_hold : PySem.W.nsIn K mainGlobals "is_hold" = some (some (.ref f_is_hold))) (l_is_hold : K.lookup f_is_hold = some ⟨oc_is_hold, od_is_hold, .func (PySem.W.fnOf "is_hold" "is_hold" (defArgs s_is_hold) (defBody s_is_hold) (defScope s_is_hold) .none kV_is_hold dc_is_hold pm_is_hold an_is_hold cd_is_hold ct_is_hold), sl_is_hold⟩) (c_is_hold : PySem.W.codeIn K cd_is_hold "is_hold" = true) (k_is_hold : PySem.W.keepIn K (.ref f_is_hold) = true)
    (a_is_table_gadget : PySem.W.nsIn K mainGlobals "is_table_gadget" = some (some (.ref f_is_table_gadget))) (l_is_table_gadget : K.lookup f_is_table_gadget = some ⟨oc_is_table_gadget, od_is_table_gadget, .func (PySem.W.fnOf "is_table_gadget" "is_table_gadget" (defArgs s_is_table_gadget) (defBody s_is_table_gadget) (defScope s_is_table_gadget) .none kV_is_table_gadget dc_is_table_gadget pm_is_table_gadget an_is_table_gadget cd_is_table_gadget ct_is_table_gadget), sl_is_table_gadget⟩) (c_is_table_gadget : PySem.W.codeIn K cd_is_table_gadget "is_table_gadget" = true) (k_is_table_gadget : PySem.W.keepIn K (.ref f_is_table_gadget) = true)
    (a_is_gadget : PySem.W.nsIn K mainGlobals "is_gadget" = some (some (.ref f_is_gadget))) (l_is_gadget : K.lookup f_is_gadget = some ⟨oc_is_gadget, od_is_gadget, .func (PySem.W.fnOf "is_gadget" "is_gadget" (defArgs s_is_gadget) (defBody s_is_gadget) (defScope s_is_gadget) .none kV_is_gadget dc_is_gadget pm_is_gadget an_is_gadget cd_is_gadget ct_is_gadget), sl_is_gadget⟩) (c_is_gadget : PySem.W.codeIn K cd_is_gadget "is_gadget" = true) (k_is_gadget : PySem.W.keepIn K (.ref f_is_gadget) = true)
    (a__law_deck : PySem.W.nsIn K mainGlobals "_law_deck" = some (some (.ref f__law_deck))) (l__law_deck : K.lookup f__law_deck = some ⟨oc__law_deck, od__law_deck, .func (PySem.W.fnOf "_law_deck" "_law_deck" (defArgs s__law_deck) (defBody s__law_deck) (defScope s__law_deck) .none kV__law_deck dc__law_deck pm__law_deck an__law_deck cd__law_deck ct__law_deck), sl__law_deck⟩) (c__law_deck : PySem.W.codeIn K cd__law_deck "_law_deck" = true) (k__law_deck : PySem.W.keepIn K (.ref f__law_deck) = true)
    (a__law_next : PySem.W.nsIn K mainGlobals "_law_next" = some (some (.ref f__law_next))) (l__law_next : K.lookup f__law_next = some ⟨oc__law_next, od__law_next, .func (PySem.W.fnOf "_law_next" "_law_next" (defArgs s__law_next) (defBody s__law_next) (defScope s__law_next) .none kV__law_next dc__law_next pm__law_next an__law_next cd__law_next ct__law_next), sl__law_next⟩) (c__law_next : PySem.W.codeIn K cd__law_next "_law_next" = true) (k__law_next : PySem.W.keepIn K (.ref f__law_next) = true)
    (a__law_prime : PySem.W.nsIn K mainGlobals "_law_prime" = some (some (.ref f__law_prime))) (l__law_prime : K.lookup f__law_prime = some ⟨oc__law_prime, od__law_prime, .func (PySem.W.fnOf "_law_prime" "_law_prime" (defArgs s__law_prime) (defBody s__law_prime) (defScope s__law_prime) .none kV__law_prime dc__law_prime pm__law_prime an__law_prime cd__law_prime ct__law_prime), sl__law_prime⟩) (c__law_prime : PySem.W.codeIn K cd__law_prime "_law_prime" = true) (k__law_prime : PySem.W.keepIn K (.ref f__law_prime) = true)
    (a__law_hold : PySem.W.nsIn K mainGlobals "_law_hold" = some (some (.ref f__law_hold))) (l__law_hold : K.lookup f__law_hold = some ⟨oc__law_hold, od__law_hold, .func (PySem.W.fnOf "_law_hold" "_law_hold" (defArgs s__law_hold) (defBody s__law_hold) (defScope s__law_hold) .none kV__law_hold dc__law_hold pm__law_hold an__law_hold cd__law_hold ct__law_hold), sl__law_hold⟩) (c__law_hold : PySem.W.codeIn K cd__law_hold "_law_hold" = true) (k__law_hold : PySem.W.keepIn K (.ref f__law_hold) = true)
    (a__law_table : PySem.W.nsIn K mainGlobals "_law_table" = some (some (.ref f__law_table))) (l__law_table : K.lookup f__law_table = some ⟨oc__law_table, od__law_table, .func (PySem.W.fnOf "_law_table" "_law_table" (defArgs s__law_table) (defBody s__law_table) (defScope s__law_table) .none kV__law_table dc__law_table pm__law_table an__law_table cd__law_table ct__law_table), sl__law_table⟩) (c__law_table : PySem.W.codeIn K cd__law_table "_law_table" = true) (k__law_table : PySem.W.keepIn K (.ref f__law_table) = true)
    (a__law_is_from : PySem.W.nsIn K mainGlobals "_law_is_from" = some (some (.ref f__law_is_from))) (l__law_is_from : K.lookup f__law_is_from = some ⟨oc__law_is_from, od__law_is_from, .func (PySem.W.fnOf "_law_is_from" "_law_is_from" (defArgs s__law_is_from) (defBody s__law_is_from) (defScope s__law_is_from) .none kV__law_is_from dc__law_is_from pm__law_is_from an__law_is_from cd__law_is_from ct__law_is_from), sl__law_is_from⟩) (c__law_is_from : PySem.W.codeIn K cd__law_is_from "_law_is_from" = true) (k__law_is_from : PySem.W.keepIn K (.ref f__law_is_from) = true)
    (a__law_are_from : PySem.W.nsIn K mainGlobals "_law_are_from" = some (some (.ref f__law_are_from))) (l__law_are_from : K.lookup f__law_are_from = some ⟨oc__law_are_from, od__law_are_from, .func (PySem.W.fnOf "_law_are_from" "_law_are_from" (defArgs s__law_are_from) (defBody s__law_are_from) (defScope s__law_are_from) .none kV__law_are_from dc__law_are_from pm__law_are_from an__law_are_from cd__law_are_from ct__law_are_from), sl__law_are_from⟩) (c__law_are_from : PySem.W.codeIn K cd__law_are_from "_law_are_from" = true) (k__law_are_from : PySem.W.keepIn K (.ref f__law_are_from) = true)
    (a__law_is_table : PySem.W.nsIn K mainGlobals "_law_is_table" = some (some (.ref f__law_is_table))) (l__law_is_table : K.lookup f__law_is_table = some ⟨oc__law_is_table, od__law_is_table, .func (PySem.W.fnOf "_law_is_table" "_law_is_table" (defArgs s__law_is_table) (defBody s__law_is_table) (defScope s__law_is_table) .none kV__law_is_table dc__law_is_table pm__law_is_table an__law_is_table cd__law_is_table ct__law_is_table), sl__law_is_table⟩) (c__law_is_table : PySem.W.codeIn K cd__law_is_table "_law_is_table" = true) (k__law_is_table : PySem.W.keepIn K (.ref f__law_is_table) = true)
    (a__law_due : PySem.W.nsIn K mainGlobals "_law_due" = some (some (.ref f__law_due))) (l__law_due : K.lookup f__law_due = some ⟨oc__law_due, od__law_due, .func (PySem.W.fnOf "_law_due" "_law_due" (defArgs s__law_due) (defBody s__law_due) (defScope s__law_due) .none kV__law_due dc__law_due pm__law_due an__law_due cd__law_due ct__law_due), sl__law_due⟩) (c__law_due : PySem.W.codeIn K cd__law_due "_law_due" = true) (k__law_due : PySem.W.keepIn K (.ref f__law_due) = true)
    (a__law_spoilt : PySem.W.nsIn K mainGlobals "_law_spoilt" = some (some (.ref f__law_spoilt))) (l__law_spoilt : K.lookup f__law_spoilt = some ⟨oc__law_spoilt, od__law_spoilt, .func (PySem.W.fnOf "_law_spoilt" "_law_spoilt" (defArgs s__law_spoilt) (defBody s__law_spoilt) (defScope s__law_spoilt) .none kV__law_spoilt dc__law_spoilt pm__law_spoilt an__law_spoilt cd__law_spoilt ct__law_spoilt), sl__law_spoilt⟩) (c__law_spoilt : PySem.W.codeIn K cd__law_spoilt "_law_spoilt" = true) (k__law_spoilt : PySem.W.keepIn K (.ref f__law_spoilt) = true)
    (a__law_gadgets : PySem.W.nsIn K mainGlobals "_law_gadgets" = some (some (.ref f__law_gadgets))) (l__law_gadgets : K.lookup f__law_gadgets = some ⟨oc__law_gadgets, od__law_gadgets, .func (PySem.W.fnOf "_law_gadgets" "_law_gadgets" (defArgs s__law_gadgets) (defBody s__law_gadgets) (defScope s__law_gadgets) .none kV__law_gadgets dc__law_gadgets pm__law_gadgets an__law_gadgets cd__law_gadgets ct__law_gadgets), sl__law_gadgets⟩) (c__law_gadgets : PySem.W.codeIn K cd__law_gadgets "_law_gadgets" = true) (k__law_gadgets : PySem.W.keepIn K (.ref f__law_gadgets) = true)
    (a__law_right : PySem.W.nsIn K mainGlobals "_law_right" = some (some (.ref f__law_right))) (l__law_right : K.lookup f__law_right = some ⟨oc__law_right, od__law_right, .func (PySem.W.fnOf "_law_right" "_law_right" (defArgs s__law_right) (defBody s__law_right) (defScope s__law_right) .none kV__law_right dc__law_right pm__law_right an__law_right cd__law_right ct__law_right), sl__law_right⟩) (c__law_right : PySem.W.codeIn K cd__law_right "_law_right" = true) (k__law_right : PySem.W.keepIn K (.ref f__law_right) = true)
    (a_law : PySem.W.nsIn K mainGlobals "law" = some (some (.ref f_law))) (l_law : K.lookup f_law = some ⟨oc_law, od_law, .func (PySem.W.fnOf "law" "law" (defArgs s_law) (defBody s_law) (defScope s_law) .none kV_law dc_law pm_law an_law cd_law ct_law), sl_law⟩) (c_law : PySem.W.codeIn K cd_law "law" = true) (k_law : PySem.W.keepIn K (.ref f_law) = true)
    (z_abs : PySem.W.nsIn K mainGlobals "abs" = some none)
    (z_all : PySem.W.nsIn K mainGlobals "all" = some none)
    (z_bool : PySem.W.nsIn K mainGlobals "bool" = some none)
    (z_int : PySem.W.nsIn K mainGlobals "int" = some none)
    (z_isinstance : PySem.W.nsIn K mainGlobals "isinstance" = some none)
    (z_len : PySem.W.nsIn K mainGlobals "len" = some none)
    (z_list : PySem.W.nsIn K mainGlobals "list" = some none)
    (z_range : PySem.W.nsIn K mainGlobals "range" = some none)
    (z_repr : PySem.W.nsIn K mainGlobals "repr" = some none)
    (z_str : PySem.W.nsIn K mainGlobals "str" = some none)
    (z_tuple : PySem.W.nsIn K mainGlobals "tuple" = some none)
    (z_zip : PySem.W.nsIn K mainGlobals "zip" = some none)
    (e_POSTS : PySem.W.nsIn K mainGlobals "POSTS" = some (some (.int 10 t_POSTS))) :
    LawOk l.prog w K mg fa := by
  have e := hfa.symm.trans (PySem.W.mg_of X G a_law)
  cases e
  have F_is_whole := fun_mk (st := s_is_whole) l_is_whole c_is_whole k_is_whole
  have b_is_whole := F_is_whole.binds (ps := ["thing"]) fun _ _ _ _ _ _ us hl => match us, hl with | [_], _ => rfl
  have F_is_round := fun_mk (st := s_is_round) l_is_round c_is_round k_is_round
  have b_is_round := F_is_round.binds (ps := ["p", "thing"]) fun _ _ _ _ _ _ us hl => match us, hl with | [_, _], _ => rfl
  have F_are_numbers := fun_mk (st := s_are_numbers) l_are_numbers c_are_numbers k_are_numbers
  have b_are_numbers := F_are_numbers.binds (ps := ["p", "many", "thing"]) fun _ _ _ _ _ _ us hl => match us, hl with | [_, _, _], _ => rfl
  have F_is_square := fun_mk (st := s_is_square) l_is_square c_is_square k_is_square
  have b_is_square := F_is_square.binds (ps := ["p", "many", "thing"]) fun _ _ _ _ _ _ us hl => match us, hl with | [_, _, _], _ => rfl
  have F_is_table := fun_mk (st := s_is_table) l_is_table c_is_table k_is_table
  have b_is_table := F_is_table.binds (ps := ["p", "many", "thing"]) fun _ _ _ _ _ _ us hl => match us, hl with | [_, _, _], _ => rfl
  have F_is_hold := fun_mk (st := s_is_hold) l_is_hold c_is_hold k_is_hold
  have b_is_hold := F_is_hold.binds (ps := ["posts", "thing"]) fun _ _ _ _ _ _ us hl => match us, hl with | [_, _], _ => rfl
  have F_is_table_gadget := fun_mk (st := s_is_table_gadget) l_is_table_gadget c_is_table_gadget k_is_table_gadget
  have b_is_table_gadget := F_is_table_gadget.binds (ps := ["p", "thing"]) fun _ _ _ _ _ _ us hl => match us, hl with | [_, _], _ => rfl
  have F_is_gadget := fun_mk (st := s_is_gadget) l_is_gadget c_is_gadget k_is_gadget
  have b_is_gadget := F_is_gadget.binds (ps := ["p", "thing"]) fun _ _ _ _ _ _ us hl => match us, hl with | [_, _], _ => rfl
  have F__law_deck := fun_mk (st := s__law_deck) l__law_deck c__law_deck k__law_deck
  have b__law_deck := F__law_deck.binds (ps := ["_law_script"]) fun _ _ _ _ _ _ us hl => match us, hl with | [_], _ => rfl
  have F__law_next := fun_mk (st := s__law_next) l__law_next c__law_next k__law_next
  have b__law_next := F__law_next.binds (ps := ["_law_deck_here", "_law_many"]) fun _ _ _ _ _ _ us hl => match us, hl with | [_, _], _ => rfl
  have F__law_prime := fun_mk (st := s__law_prime) l__law_prime c__law_prime k__law_prime
  have b__law_prime := F__law_prime.binds (ps := ["_law_deck_here"]) fun _ _ _ _ _ _ us hl => match us, hl with | [_], _ => rfl
  have F__law_hold := fun_mk (st := s__law_hold) l__law_hold c__law_hold k__law_hold
  have b__law_hold := F__law_hold.binds (ps := ["_law_deck_here", "_law_posts"]) fun _ _ _ _ _ _ us hl => match us, hl with | [_, _], _ => rfl
  have F__law_table := fun_mk (st := s__law_table) l__law_table c__law_table k__law_table
  have b__law_table := F__law_table.binds (ps := ["_law_deck_here", "_law_p", "_law_posts"]) fun _ _ _ _ _ _ us hl => match us, hl with | [_, _, _], _ => rfl
  have F__law_is_from := fun_mk (st := s__law_is_from) l__law_is_from c__law_is_from k__law_is_from
  have b__law_is_from := F__law_is_from.binds (ps := ["_law_thing", "_law_low", "_law_high"]) fun _ _ _ _ _ _ us hl => match us, hl with | [_, _, _], _ => rfl
  have F__law_are_from := fun_mk (st := s__law_are_from) l__law_are_from c__law_are_from k__law_are_from
  have b__law_are_from := F__law_are_from.binds (ps := ["_law_thing", "_law_many", "_law_high"]) fun _ _ _ _ _ _ us hl => match us, hl with | [_, _, _], _ => rfl
  have F__law_is_table := fun_mk (st := s__law_is_table) l__law_is_table c__law_is_table k__law_is_table
  have b__law_is_table := F__law_is_table.binds (ps := ["_law_p", "_law_sides", "_law_thing"]) fun _ _ _ _ _ _ us hl => match us, hl with | [_, _, _], _ => rfl
  have F__law_due := fun_mk (st := s__law_due) l__law_due c__law_due k__law_due
  have b__law_due := F__law_due.binds (ps := ["_law_p", "_law_thing"]) fun _ _ _ _ _ _ us hl => match us, hl with | [_, _], _ => rfl
  have F__law_spoilt := fun_mk (st := s__law_spoilt) l__law_spoilt c__law_spoilt k__law_spoilt
  have b__law_spoilt := F__law_spoilt.binds (ps := ["_law_deck_here", "_law_thing"]) fun _ _ _ _ _ _ us hl => match us, hl with | [_, _], _ => rfl
  have F__law_gadgets := fun_mk (st := s__law_gadgets) l__law_gadgets c__law_gadgets k__law_gadgets
  have b__law_gadgets := F__law_gadgets.binds (ps := ["_law_deck_here", "_law_p"]) fun _ _ _ _ _ _ us hl => match us, hl with | [_, _], _ => rfl
  have F__law_right := fun_mk (st := s__law_right) l__law_right c__law_right k__law_right
  have b__law_right := F__law_right.binds (ps := ["_law_p", "_law_thing"]) fun _ _ _ _ _ _ us hl => match us, hl with | [_, _], _ => rfl
  have F_law := fun_mk (st := s_law) l_law c_law k_law
  have b_law := F_law.binds (ps := ["_law_script"]) fun _ _ _ _ _ _ us hl => match us, hl with | [_], _ => rfl
  let A : Ad := ⟨f_is_whole, PySem.W.fnOf "is_whole" "is_whole" (defArgs s_is_whole) (defBody s_is_whole) (defScope s_is_whole) .none kV_is_whole dc_is_whole pm_is_whole an_is_whole cd_is_whole ct_is_whole, f_is_round, PySem.W.fnOf "is_round" "is_round" (defArgs s_is_round) (defBody s_is_round) (defScope s_is_round) .none kV_is_round dc_is_round pm_is_round an_is_round cd_is_round ct_is_round, f_are_numbers, PySem.W.fnOf "are_numbers" "are_numbers" (defArgs s_are_numbers) (defBody s_are_numbers) (defScope s_are_numbers) .none kV_are_numbers dc_are_numbers pm_are_numbers an_are_numbers cd_are_numbers ct_are_numbers, f_is_square, PySem.W.fnOf "is_square" "is_square" (defArgs s_is_square) (defBody s_is_square) (defScope s_is_square) .none kV_is_square dc_is_square pm_is_square an_is_square cd_is_square ct_is_square, f_is_table, PySem.W.fnOf "is_table" "is_table" (defArgs s_is_table) (defBody s_is_table) (defScope s_is_table) .none kV_is_table dc_is_table pm_is_table an_is_table cd_is_table ct_is_table, f_is_hold, PySem.W.fnOf "is_hold" "is_hold" (defArgs s_is_hold) (defBody s_is_hold) (defScope s_is_hold) .none kV_is_hold dc_is_hold pm_is_hold an_is_hold cd_is_hold ct_is_hold, f_is_table_gadget, PySem.W.fnOf "is_table_gadget" "is_table_gadget" (defArgs s_is_table_gadget) (defBody s_is_table_gadget) (defScope s_is_table_gadget) .none kV_is_table_gadget dc_is_table_gadget pm_is_table_gadget an_is_table_gadget cd_is_table_gadget ct_is_table_gadget, f_is_gadget, PySem.W.fnOf "is_gadget" "is_gadget" (defArgs s_is_gadget) (defBody s_is_gadget) (defScope s_is_gadget) .none kV_is_gadget dc_is_gadget pm_is_gadget an_is_gadget cd_is_gadget ct_is_gadget, f__law_deck, PySem.W.fnOf "_law_deck" "_law_deck" (defArgs s__law_deck) (defBody s__law_deck) (defScope s__law_deck) .none kV__law_deck dc__law_deck pm__law_deck an__law_deck cd__law_deck ct__law_deck, f__law_next, PySem.W.fnOf "_law_next" "_law_next" (defArgs s__law_next) (defBody s__law_next) (defScope s__law_next) .none kV__law_next dc__law_next pm__law_next an__law_next cd__law_next ct__law_next, f__law_prime, PySem.W.fnOf "_law_prime" "_law_prime" (defArgs s__law_prime) (defBody s__law_prime) (defScope s__law_prime) .none kV__law_prime dc__law_prime pm__law_prime an__law_prime cd__law_prime ct__law_prime, f__law_hold, PySem.W.fnOf "_law_hold" "_law_hold" (defArgs s__law_hold) (defBody s__law_hold) (defScope s__law_hold) .none kV__law_hold dc__law_hold pm__law_hold an__law_hold cd__law_hold ct__law_hold, f__law_table, PySem.W.fnOf "_law_table" "_law_table" (defArgs s__law_table) (defBody s__law_table) (defScope s__law_table) .none kV__law_table dc__law_table pm__law_table an__law_table cd__law_table ct__law_table, f__law_is_from, PySem.W.fnOf "_law_is_from" "_law_is_from" (defArgs s__law_is_from) (defBody s__law_is_from) (defScope s__law_is_from) .none kV__law_is_from dc__law_is_from pm__law_is_from an__law_is_from cd__law_is_from ct__law_is_from, f__law_are_from, PySem.W.fnOf "_law_are_from" "_law_are_from" (defArgs s__law_are_from) (defBody s__law_are_from) (defScope s__law_are_from) .none kV__law_are_from dc__law_are_from pm__law_are_from an__law_are_from cd__law_are_from ct__law_are_from, f__law_is_table, PySem.W.fnOf "_law_is_table" "_law_is_table" (defArgs s__law_is_table) (defBody s__law_is_table) (defScope s__law_is_table) .none kV__law_is_table dc__law_is_table pm__law_is_table an__law_is_table cd__law_is_table ct__law_is_table, f__law_due, PySem.W.fnOf "_law_due" "_law_due" (defArgs s__law_due) (defBody s__law_due) (defScope s__law_due) .none kV__law_due dc__law_due pm__law_due an__law_due cd__law_due ct__law_due, f__law_spoilt, PySem.W.fnOf "_law_spoilt" "_law_spoilt" (defArgs s__law_spoilt) (defBody s__law_spoilt) (defScope s__law_spoilt) .none kV__law_spoilt dc__law_spoilt pm__law_spoilt an__law_spoilt cd__law_spoilt ct__law_spoilt, f__law_gadgets, PySem.W.fnOf "_law_gadgets" "_law_gadgets" (defArgs s__law_gadgets) (defBody s__law_gadgets) (defScope s__law_gadgets) .none kV__law_gadgets dc__law_gadgets pm__law_gadgets an__law_gadgets cd__law_gadgets ct__law_gadgets, f__law_right, PySem.W.fnOf "_law_right" "_law_right" (defArgs s__law_right) (defBody s__law_right) (defScope s__law_right) .none kV__law_right dc__law_right pm__law_right an__law_right cd__law_right ct__law_right, fa, PySem.W.fnOf "law" "law" (defArgs s_law) (defBody s_law) (defScope s_law) .none kV_law dc_law pm_law an_law cd_law ct_law, 0⟩
  have T : Tx K mg A := ⟨⟨F_is_whole, b_is_whole, PySem.W.mg_of X G a_is_whole⟩, ⟨F_is_round, b_is_round, PySem.W.mg_of X G a_is_round⟩, ⟨F_are_numbers, b_are_numbers, PySem.W.mg_of X G a_are_numbers⟩, ⟨F_is_square, b_is_square, PySem.W.mg_of X G a_is_square⟩, ⟨F_is_table, b_is_table, PySem.W.mg_of X G a_is_table⟩, ⟨F_is_hold, b_is_hold, PySem.W.mg_of X G a_is_hold⟩, ⟨F_is_table_gadget, b_is_table_gadget, PySem.W.mg_of X G a_is_table_gadget⟩, ⟨F_is_gadget, b_is_gadget, PySem.W.mg_of X G a_is_gadget⟩, ⟨F__law_deck, b__law_deck, PySem.W.mg_of X G a__law_deck⟩, ⟨F__law_next, b__law_next, PySem.W.mg_of X G a__law_next⟩, ⟨F__law_prime, b__law_prime, PySem.W.mg_of X G a__law_prime⟩, ⟨F__law_hold, b__law_hold, PySem.W.mg_of X G a__law_hold⟩, ⟨F__law_table, b__law_table, PySem.W.mg_of X G a__law_table⟩, ⟨F__law_is_from, b__law_is_from, PySem.W.mg_of X G a__law_is_from⟩, ⟨F__law_are_from, b__law_are_from, PySem.W.mg_of X G a__law_are_from⟩, ⟨F__law_is_table, b__law_is_table, PySem.W.mg_of X G a__law_is_table⟩, ⟨F__law_due, b__law_due, PySem.W.mg_of X G a__law_due⟩, ⟨F__law_spoilt, b__law_spoilt, PySem.W.mg_of X G a__law_spoilt⟩, ⟨F__law_gadgets, b__law_gadgets, PySem.W.mg_of X G a__law_gadgets⟩, ⟨F__law_right, b__law_right, PySem.W.mg_of X G a__law_right⟩, ⟨F_law, b_law, PySem.W.mg_of X G a_law⟩, PySem.W.mg_none_of X G z_abs, PySem.W.mg_none_of X G z_all, PySem.W.mg_none_of X G z_bool, PySem.W.mg_none_of X G z_int, PySem.W.mg_none_of X G z_isinstance, PySem.W.mg_none_of X G z_len, PySem.W.mg_none_of X G z_list, PySem.W.mg_none_of X G z_range, PySem.W.mg_none_of X G z_repr, PySem.W.mg_none_of X G z_str, PySem.W.mg_none_of X G z_tuple, PySem.W.mg_none_of X G z_zip, ⟨_, PySem.W.mg_of X G e_POSTS⟩⟩
  exact ok_law T
end Kp

open PySem PySem.W PyProof.Rows in
set_option maxRecDepth 100000 in
set_option maxHeartbeats 0 in
theorem PySem.Challenge.cw_fairposts_k22_gadgets_or_not_holds : PySem.Challenge.rw_fairposts_k22_gadgets_or_not.Holds := by
  w_on; o_law; k_head; (case hw => w_witness2)
  k_fill
  refine Kp.walk_g (l := PySem.Challenge.rw_fairposts_k22_gadgets_or_not) rfl rfl (by decide +kernel) (fun w h Y => PySem.W.kIn_of Y) ?F
  case F =>
    intro w mg fa h KX G hmg
    refine' Kp.all_mk KX G hmg ?a_is_whole ?l_is_whole ?c_is_whole ?k_is_whole ?a_is_round ?l_is_round ?c_is_round ?k_is_round ?a_are_numbers ?l_are_numbers ?c_are_numbers ?k_are_numbers ?a_is_square ?l_is_square ?c_is_square ?k_is_square ?a_is_table ?l_is_table ?c_is_table ?k_is_table ?a_is_hold ?l_is_hold ?c_is_hold ?k_is_hold ?a_is_table_gadget ?l_is_table_gadget ?c_is_table_gadget ?k_is_table_gadget ?a_is_gadget ?l_is_gadget ?c_is_gadget ?k_is_gadget ?a__law_deck ?l__law_deck ?c__law_deck ?k__law_deck ?a__law_next ?l__law_next ?c__law_next ?k__law_next ?a__law_prime ?l__law_prime ?c__law_prime ?k__law_prime ?a__law_hold ?l__law_hold ?c__law_hold ?k__law_hold ?a__law_table ?l__law_table ?c__law_table ?k__law_table ?a__law_is_from ?l__law_is_from ?c__law_is_from ?k__law_is_from ?a__law_are_from ?l__law_are_from ?c__law_are_from ?k__law_are_from ?a__law_is_table ?l__law_is_table ?c__law_is_table ?k__law_is_table ?a__law_due ?l__law_due ?c__law_due ?k__law_due ?a__law_spoilt ?l__law_spoilt ?c__law_spoilt ?k__law_spoilt ?a__law_gadgets ?l__law_gadgets ?c__law_gadgets ?k__law_gadgets ?a__law_right ?l__law_right ?c__law_right ?k__law_right ?a_law ?l_law ?c_law ?k_law ?z_abs ?z_all ?z_bool ?z_int ?z_isinstance ?z_len ?z_list ?z_range ?z_repr ?z_str ?z_tuple ?z_zip ?e_POSTS
    (case a_is_whole => k_is)
    (case l_is_whole => k_is)
    (case c_is_whole => k_is)
    (case k_is_whole => k_is)
    (case a_is_round => k_is)
    (case l_is_round => k_is)
    (case c_is_round => k_is)
    (case k_is_round => k_is)
    (case a_are_numbers => k_is)
    (case l_are_numbers => k_is)
    (case c_are_numbers => k_is)
    (case k_are_numbers => k_is)
    (case a_is_square => k_is)
    (case l_is_square => k_is)
    (case c_is_square => k_is)
    (case k_is_square => k_is)
    (case a_is_table => k_is)
    (case l_is_table => k_is)
    (case c_is_table => k_is)
    (case k_is_table => k_is)
    (case a_is_hold => k_is)
    (case l_is_hold => k_is)
    (case c_is_hold => k_is)
    (case k_is_hold => k_is)
    (case a_is_table_gadget => k_is)
    (case l_is_table_gadget => k_is)
    (case c_is_table_gadget => k_is)
    (case k_is_table_gadget => k_is)
    (case a_is_gadget => k_is)
    (case l_is_gadget => k_is)
    (case c_is_gadget => k_is)
    (case k_is_gadget => k_is)
    (case a__law_deck => k_is)
    (case l__law_deck => k_is)
    (case c__law_deck => k_is)
    (case k__law_deck => k_is)
    (case a__law_next => k_is)
    (case l__law_next => k_is)
    (case c__law_next => k_is)
    (case k__law_next => k_is)
    (case a__law_prime => k_is)
    (case l__law_prime => k_is)
    (case c__law_prime => k_is)
    (case k__law_prime => k_is)
    (case a__law_hold => k_is)
    (case l__law_hold => k_is)
    (case c__law_hold => k_is)
    (case k__law_hold => k_is)
    (case a__law_table => k_is)
    (case l__law_table => k_is)
    (case c__law_table => k_is)
    (case k__law_table => k_is)
    (case a__law_is_from => k_is)
    (case l__law_is_from => k_is)
    (case c__law_is_from => k_is)
    (case k__law_is_from => k_is)
    (case a__law_are_from => k_is)
    (case l__law_are_from => k_is)
    (case c__law_are_from => k_is)
    (case k__law_are_from => k_is)
    (case a__law_is_table => k_is)
    (case l__law_is_table => k_is)
    (case c__law_is_table => k_is)
    (case k__law_is_table => k_is)
    (case a__law_due => k_is)
    (case l__law_due => k_is)
    (case c__law_due => k_is)
    (case k__law_due => k_is)
    (case a__law_spoilt => k_is)
    (case l__law_spoilt => k_is)
    (case c__law_spoilt => k_is)
    (case k__law_spoilt => k_is)
    (case a__law_gadgets => k_is)
    (case l__law_gadgets => k_is)
    (case c__law_gadgets => k_is)
    (case k__law_gadgets => k_is)
    (case a__law_right => k_is)
    (case l__law_right => k_is)
    (case c__law_right => k_is)
    (case k__law_right => k_is)
    (case a_law => k_is)
    (case l_law => k_is)
    (case c_law => k_is)
    (case k_law => k_is)
    (case z_abs => k_is)
    (case z_all => k_is)
    (case z_bool => k_is)
    (case z_int => k_is)
    (case z_isinstance => k_is)
    (case z_len => k_is)
    (case z_list => k_is)
    (case z_range => k_is)
    (case z_repr => k_is)
    (case z_str => k_is)
    (case z_tuple => k_is)
    (case z_zip => k_is)
    (case e_POSTS => k_is)
#print axioms PySem.Challenge.cw_fairposts_k22_gadgets_or_not_holds
