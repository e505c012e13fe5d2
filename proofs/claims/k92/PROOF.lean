import PyProof.Rows.All
import Wide.All
import OpenK.AllK
import Wide.FinOn
import HandS.ForMost
import HandS.Wide
import HandS.Conv
import HandS.Zip
import HandS.Walk
import HandS.DictComp
import HandS.Small
import HandS.SortInts
import HandS.Style
import HandS.IsInst
import HandS.TupAny
import HandS.TupLe
import HandS.AnyAll
import HandS.ListItems
import HandS.EndOwn
import HandS.TryOnly
import HandS.Star
import HandS.FStr
import HandS.Text
import HandS.RaiseMore
import KE.KNestM
import HandS.GenList
import PyProof.TupleOfGen
import HandS.TupMul
import KE.GoesNew
import KE.KDictZip
import PySem.Challenge.RW_fairposts_k92_texts_shown
set_option Elab.async false
set_option maxRecDepth 100000
namespace Gx
open PySem PySem.Spec PyProof.Rows L2
theorem over_start {A : Around} {elt : Expr} {gs : List Comprehension} {scope : Scope} {pos : Pos} {it acc : Value} {env : Env} :
    A.over (.compStart (.GeneratorExp elt gs scope pos) 0 it acc env) [] = A.deeper env := by
  obtain ⟨hd, d, fr, g, u⟩ := A
  simp [Around.over, Around.deeper, marksOver, frameCount, unitsOf, envsOf, guardsOf, pushEnvs, pushGuards, Code.envs, Code.env?, Code.isFrame, Code.guards, Code.isGuard, Code.weight, Code.frames, Code.isCreation, Code.isCaller, Code.cUnits]
theorem over_loop0 {A : Around} {elt : Expr} {gs : List Comprehension} {scope : Scope} {pos : Pos} {it acc : Value} {env : Env} :
    A.over (.compLoop (.GeneratorExp elt gs scope pos) 0 it acc env) [] = A.deeper env := by
  obtain ⟨hd, d, fr, g, u⟩ := A
  simp [Around.over, Around.deeper, marksOver, frameCount, unitsOf, envsOf, guardsOf, pushEnvs, pushGuards, Code.envs, Code.env?, Code.isFrame, Code.guards, Code.isGuard, Code.weight, Code.frames, Code.isCreation, Code.isCaller, Code.cUnits]
/-- the context of a generator expression's own frame, made at s -/
abbrev gx (X : Cx) (A : Around) (s : Shared) (H : Hp) (cenv : Env) (fp : List Addr) (pn : List (Addr × Obj)) : Cx :=
  { X with A := A.deeper cenv, s_0 := s, H_0 := H, env := cenv, outer := X.stack, stack := cenv :: X.stack, ex := fp, fn := fun _ => false, pn := pn, xe := fun _ _ => False }
abbrev gxEnv (X : Cx) (scope : Scope) (s : Shared) (code : Value) : Env := genEnv scope (cloFrom X.env.cells scope.names []) s.heap.objs.size code builtinsNs X.env
section
variable {X : Cx} {pins : List (Addr × Obj)} {σ : L2.St} {H : Hp} {s : Shared}
theorem gx_inv {scope : Scope} {own : List (Str × Nat)} {fp : List Addr} {A : Around} {code : Value} {s5 : Shared} {pn pins5 : List (Addr × Obj)} (I : L2.Inv X pins σ H s) (ok : BlkOk X.N X.env.scope scope own) (hN : X.N.Nodup)
    (nc : ∀ y ∈ scope.names, y.2 ≠ .cell) (hfp : ∀ b ∈ fp, FpOk X pins H b ∧ b < s.heap.objs.size) (hA : A.handled = none) (hfr : A.frames = some X.stack)
    (kp : ∀ b o, s.heap.get? b = some o → s5.heap.get? b = some o) (hn : ∃ m, s5.heap.Ns s.heap.objs.size m) (hos : s5.os = s.os) (hb : AllBare s5.gens)
    (hpin : ∀ p ∈ pn ++ pins5, s5.heap.get? p.1 = some p.2 ∧ H p.1 = none ∧ p.1 ≠ s.heap.objs.size ∧ p.1 ∉ frs X.stack ∧ ∀ v, p.2.data ≠ .cell v) :
    L2.Inv (gx X A s H (gxEnv X scope s code) fp pn) pins5 (wipe σ (own.map (·.2))) H s5 := by
  have hfree : ∀ y ∈ scope.names, y.2 = .free → ∃ c, X.env.cells.lookup y.1 = some c := by
    intro y hy e
    exact (ok.free y hy e).elim (fun k => I.ok.has _ (.inl k)) (fun k => I.ok.has _ (.inr k))
  have cm : ∀ {y c}, (y, c) ∈ cloFrom X.env.cells scope.names [] → X.env.cells.lookup y = some c ∧ c < s.heap.objs.size := by
    intro y c hm
    rcases cloFrom_mem hm with z | ⟨h1, rfl⟩
    · cases z
    · obtain ⟨c, hc⟩ := hfree _ h1 rfl
      rw [hc]
      obtain ⟨_, z⟩ := I.cell _ _ hc
      exact ⟨rfl, z.lt⟩
  have mem : ∀ {y c}, (cloFrom X.env.cells scope.names []).lookup y = some c → X.env.cells.lookup y = some c ∧ c < s.heap.objs.size := fun e => cm (PySem.mem_of_lookup e)
  have look : ∀ {y}, scope.names.lookup y = some .free → ∃ c, (cloFrom X.env.cells scope.names []).lookup y = some c ∧ X.env.cells.lookup y = some c := by
    intro y hl
    obtain ⟨c, e⟩ := mem_lookup (cloFrom_has (cells := X.env.cells) (acc := []) (PySem.mem_of_lookup hl))
    exact ⟨c, e, (mem e).1⟩
  have okG : (gx X A s H (gxEnv X scope s code) fp pn).Ok := by
    refine ⟨I.ok.mod, ok.kind, I.ok.glob, rfl, Nat.le_refl _, fun y z c e1 e2 => I.ok.inj y z c (mem e1).1 (mem e2).1, fun y hy => ?_, fun y c z _ => absurd z Bool.false_ne_true, fun _ => hA, Around.frames_deeper hfr, .inr ⟨rfl, rfl⟩,
      fun b hb => ⟨Nat.ne_of_lt (hfp b hb).2, fun y c e z => (hfp b hb).1.2.2.2.2.1 y c (mem e).1 z⟩, I.bs, Nat.le_trans I.ok.bsz I.sz, fun b o e hb => ?_, fun b hb z => ?_, I.stack, I.stkFree⟩
    · rcases hy with hy | hy
      · exact absurd rfl (nc _ (PySem.mem_of_lookup (show scope.names.lookup y = some .cell from hy)))
      · obtain ⟨c, e, _⟩ := look (show scope.names.lookup y = some .free from hy)
        exact ⟨c, e⟩
    · rcases (hfp b hb).1.2.2.2.1 with z | z
      · exact I.ok.noex b o e z
      · exact absurd (Nat.lt_of_lt_of_le (Heap.lt_size e) (Nat.le_trans I.ok.bsz z)) (Nat.lt_irrefl _)
    · rcases List.mem_cons.mp (I.stkSub b z) with z | z
      · exact (hfp b hb).1.2.1 z
      · exact (hfp b hb).1.2.2.1 z
  obtain ⟨m5, hm5⟩ := hn
  refine ⟨okG, hos, hb, Un.kept kp, ⟨m5, hm5, fun i y av e1 e2 e3 => ?_⟩, fun y c e => ?_, I.hok.fresh (Nat.le_refl _), fun y c e => I.freeC y c (mem e).1, hpin, I.hok.kept kp, by rw [wipe_length]; exact I.len⟩
  · obtain ⟨e2, hne⟩ := wipe_some e2
    have fr : scope.names.lookup y = some .free := by
      have no : ∀ k, scope.names.lookup y = some k → k = .local ∨ k = .cell → False := by
        intro k e hh
        rcases ok.own _ (PySem.mem_of_lookup e) hh with e' | e'
        · obtain ⟨p, hp, hpy⟩ := List.mem_map.mp e'
          have e4 := ok.ix p hp
          have e5 : p.1 = y := hpy
          rw [e5] at e4
          exact hne (List.mem_map.mpr ⟨p, hp, nodup_ix hN e4 e1⟩)
        · exact e' (List.mem_of_getElem? e1)
      rcases (show Vis scope y from e3) with z | z | z
      · exact (no _ z (.inl rfl)).elim
      · exact (no _ z (.inr rfl)).elim
      · exact z
    obtain ⟨m, _, hl⟩ := I.loc
    have hvis : Vis X.env.scope y := (ok.free _ (PySem.mem_of_lookup fr) rfl).elim (fun k => .inr (.inl k)) (fun k => .inr (.inr k))
    obtain ⟨u, r, q⟩ := hl i y av e1 e2 hvis
    obtain ⟨c, h1, h2⟩ := look fr
    refine ⟨u, r, .inr ⟨.inr fr, c, h1, ?_⟩⟩
    rcases q with ⟨k, _⟩ | ⟨_, c', e', z⟩
    · have k : X.env.scope.names.lookup y = some .local := k
      rcases ok.free _ (PySem.mem_of_lookup fr) rfl with k' | k' <;> rw [show X.env.scope.names.lookup y = _ from k'] at k <;> cases k
    · rw [h2] at e'
      cases e'
      exact z.keeps kp
  · obtain ⟨v, z⟩ := I.cell y c (mem e).1
    exact ⟨v, z.keeps kp⟩
end
/-- what a generator expression's turns ask: W of the turn, what is left, what is out, the heap -/
def Turns (J : It) (g : TG) (te : TE) (vs : List Nat) (σ : L2.St) (Q : List V → Hp → Prop) (W : Nat → Nat → List V → Hp → Prop) : Prop :=
  ∀ i m ys H, W i m ys H → (J.stop i H ∧ Q ys H) ∨ (J.go i H ∧ ∃ Nx : List V → Hp → Prop, (∀ zs H', Nx zs H' → ∃ m', m' < m ∧ W (i + 1) m' zs H') ∧
    ∀ x H', J.yld i H x H' → g x (wipe σ vs) H' fun σ2 H2 => wipe σ2 vs = wipe σ vs ∧ te σ2 H2 fun y H3 => ys.length < sizeLine ∧ Nx (ys ++ [y]) H3)
def GEnd (X : Cx) (S : Addr) (Q : List V → Hp → Prop) : GenEnd := fun n _ r s => r = .ok .next ∧ ∃ ys σ ip H, n + ys.length = sizeLine ∧ GI X S ip ys σ H s ∧ Q ys H
section
variable {X : Cx} {A : Around} {s : Shared} {H : Hp} {cenv : Env} {fp : List Addr} {pn : List (Addr × Obj)} {S it : Addr} {tn : Nat → Heap → Prop} {J : It} {tg elt iter : Expr} {scope : Scope} {pos : Pos} {g : TG} {te : TE} {vs : List Nat} {σ : L2.St} {Q : List V → Hp → Prop} {W : Nat → Nat → List V → Hp → Prop}
theorem gx_loop (hc : X.calm = true) (T : Turn X.prog X.w X.K tg J fp it tn) (pg : PG (gx X A s H cenv fp pn) tg g) (pe : PE (gx X A s H cenv fp pn) elt te) (hco : cenv.scope.isCoroutine = false)
    (hS : ∀ p ∈ pn, p.1 ≠ S) (hfS : ∀ b ∈ fp, S ≠ b) (hfn : ∀ b ∈ fp, ∀ p ∈ pn, p.1 ≠ b) (ap : Apart (gx X A s H cenv fp pn) S) (turn : Turns J g te vs σ Q W) :
    ∀ (m i n : Nat) (ys : List V) (s₀ s1 : Shared) (H1 : Hp), W i m ys H1 → GI (gx X A s H cenv fp pn) S [] ys (wipe σ vs) H1 s1 → tn i s1.heap → (∀ b ∈ fp, H1 b = none) → n + ys.length = sizeLine →
      Seg (model X.prog X.w) A (GEnd (gx X A s H cenv fp pn) S Q) (GY (gx X A s H cenv fp pn) S) n s₀ (.compLoop (.GeneratorExp elt [⟨tg, iter, [], 0⟩] scope pos) 0 (.ref it) .none cenv)
        ((model X.prog X.w).den (.compLoop (.GeneratorExp elt [⟨tg, iter, [], 0⟩] scope pos) 0 (.ref it) .none cenv)) [] s1 := by
  intro m
  induction m using Nat.strongRecOn with
  | _ m ih =>
    intro i n ys s₀ s1 H1 w1 gi st1 n1 hn
    have ov : A.over (.compLoop (.GeneratorExp elt [⟨tg, iter, [], 0⟩] scope pos) 0 (.ref it) .none cenv) [] = (gx X A s H cenv fp pn).A := over_loop0
    have stat : ∀ {σ' : L2.St} {H' : Hp} {s' : Shared} {acc : Array Value} {c : Nat}, L2.Inv (gx X A s H cenv fp pn) [(S, lstObj acc c)] σ' H' s' → (∀ b ∈ fp, H' b = none) → ∀ b ∈ fp, FpOk (gx X A s H cenv fp pn) [(S, lstObj acc c)] H' b := by
      intro σ' H' s' acc c I' hz b hb
      refine ⟨hz b hb, (I'.ok.exf b hb).1, I'.ok.exfs b hb, .inl hb, fun x c e => (I'.ok.exf b hb).2 x c e, fun p hp => ?_⟩
      rcases List.mem_append.mp hp with z | z
      · exact hfn b hb p z
      · rw [List.mem_singleton.mp z]
        exact hfS b hb
    show Seg _ A _ _ _ s₀ _ ((compTurn (.GeneratorExp elt [⟨tg, iter, [], 0⟩] scope pos) 0 (.ref it) .none cenv).onRaise (leaving cenv)) [] s1
    rw [compTurn_gen, Sem.onRaise_eq_wrap]
    refine seg_bind_wrap (wpAny_standAt ?_)
    obtain ⟨acc, cc, ra, I⟩ := gi
    rcases turn i m ys H1 w1 with ⟨stop, q⟩ | ⟨go, Nx, hNx, step⟩
    · refine seg_bind_wrap ?_
      rw [ov]
      refine wpAny_mono (T.done (gx X A s H cenv fp pn) rfl rfl rfl hc i _ s1 _ H1 _ I (stat I n1) st1 stop) (fun r s6 h6 => ?_) (fun _ _ z => z)
      obtain ⟨rfl, I6⟩ := h6
      exact seg_end (.ok .next) ⟨rfl, ys, _, [], H1, hn, ⟨acc, cc, ra, I6⟩, q⟩
    · refine seg_bind_wrap ?_
      rw [ov]
      refine wpAny_mono (T.item (gx X A s H cenv fp pn) rfl rfl rfl hc i _ s1 _ H1 _ I (stat I n1) st1 go) (fun r s6 h6 => ?_) (fun _ _ z => z)
      obtain ⟨u, rfl, h6⟩ := h6
      refine seg_bind_wrap ?_
      rw [ov]
      refine wpAny_mono h6 (fun _ s7 h7 => ?_) (fun _ _ z => z)
      obtain ⟨x, H7, I7, r7, y7, st7, n7⟩ := h7
      have I7' := I7.pinned (stat I7 n7) (T.obj _ _ st7)
      refine seg_bind_wrap ?_
      rw [ov]
      refine wpAny_mono (pg.run _ s7 _ H7 x u _ I7' r7 (step x H7 y7)) (fun _ s8 h8 => ?_) (fun _ _ z => z.elim)
      obtain ⟨σ8, H8, I8, hw8, q8⟩ := h8
      refine seg_bind_wrap ?_
      simp only [List.forIn_nil]
      refine wpAny_pure ?_
      simp only [if_true]
      have hy : ∀ v, yieldOut cenv v = yieldValue v := fun v => by simp only [yieldOut, hco, Bool.false_eq_true, if_false]
      simp only [hy]
      rw [Sem.bind_eq_wrap', Sem.bind_eq_wrap', Sem.wrap_wrap, Sem.wrap_wrap]
      refine seg_wrap ?_
      rw [ov]
      refine wpAny_mono (pe.run _ s8 σ8 H8 _ I8 q8) (fun yv s9 h9 => ?_) (fun _ _ z => z.elim)
      obtain ⟨y, H9, I9, r9, hlt, nx⟩ := h9
      obtain ⟨n', rfl⟩ : ∃ n', n = n' + 1 := ⟨n - 1, by omega⟩
      have hip : ∀ p ∈ pinsAt fp s7.heap, p.1 ≠ S := fun p hp => (hfS p.1 (of_pinsAt hp).1).symm
      have gi9 : GI (gx X A s H cenv fp pn) S (pinsAt fp s7.heap) ys σ8 H9 s9 := ⟨acc, cc, ra, I9⟩
      refine seg_at (seg_yield rfl rfl rfl ⟨ys, y, pinsAt fp s7.heap, σ8, H9, by omega, r9, gi9, fun s'' sl => ?_⟩)
      obtain ⟨acc2, c2, ra2, I10⟩ := gi9.woken hS hip ap r9 sl
      obtain ⟨m', hm, w'⟩ := hNx _ _ nx
      have pin' : ∀ b ∈ fp, ∀ o, s7.heap.get? b = some o → s''.heap.get? b = some o ∧ H9 b = none := by
        intro b hb o e
        have z := I10.pin (b, o) (List.mem_append_right _ (List.mem_cons_of_mem _ (mem_pinsAt hb e)))
        exact ⟨z.1, z.2.1⟩
      have hl : (wipe σ vs).length = σ8.length := by rw [← hw8, wipe_length]
      refine seg_again rfl (ih m' hm (i + 1) n' (ys ++ [y]) _ s'' H9 w' ⟨acc2, c2, ra2, ?_⟩ (T.keep _ _ _ st7 fun b hb o e => (pin' b hb o e).1) (fun b hb => ?_) (by rw [List.length_append]; show n' + (ys.length + 1) = sizeLine; omega))
      · refine (Inv.unpinned (pins := [(S, lstObj acc2 c2)]) (pl := pinsAt fp s7.heap) I10).weak hl fun j v e => ?_
        rw [← hw8] at e
        exact (wipe_some e).1
      · obtain ⟨o, e, _⟩ := T.obj _ _ st7 b hb
        exact (pin' b hb o e).2
end
section
variable {X : Cx} {A : Around} {s : Shared} {H : Hp} {cenv : Env} {fp : List Addr} {pn : List (Addr × Obj)} {S it : Addr} {tn : Nat → Heap → Prop} {J : It} {tg elt iter : Expr} {scope : Scope} {pos : Pos} {g : TG} {te : TE} {vs : List Nat} {σ : L2.St} {Q : List V → Hp → Prop} {W : Nat → Nat → List V → Hp → Prop}
theorem gx_start (hc : X.calm = true) (T : Turn X.prog X.w X.K tg J fp it tn) (pg : PG (gx X A s H cenv fp pn) tg g) (pe : PE (gx X A s H cenv fp pn) elt te) (hco : cenv.scope.isCoroutine = false)
    (hS : ∀ p ∈ pn, p.1 ≠ S) (hfS : ∀ b ∈ fp, S ≠ b) (hfn : ∀ b ∈ fp, ∀ p ∈ pn, p.1 ≠ b) (ap : Apart (gx X A s H cenv fp pn) S) (turn : Turns J g te vs σ Q W)
    {m : Nat} {s₀ s1 : Shared} {H1 : Hp} (w0 : W 0 m [] H1) (gi : GI (gx X A s H cenv fp pn) S [] [] (wipe σ vs) H1 s1) (st : tn 0 s1.heap) (n1 : ∀ b ∈ fp, H1 b = none) :
    Seg (model X.prog X.w) A (GEnd (gx X A s H cenv fp pn) S Q) (GY (gx X A s H cenv fp pn) S) sizeLine s₀ (.compStart (.GeneratorExp elt [⟨tg, iter, [], 0⟩] scope pos) 0 (.ref it) .none cenv)
      ((model X.prog X.w).den (.compStart (.GeneratorExp elt [⟨tg, iter, [], 0⟩] scope pos) 0 (.ref it) .none cenv)) [] s1 := by
  have loop := gx_loop (iter := iter) (scope := scope) (pos := pos) hc T pg pe hco hS hfS hfn ap turn m 0 sizeLine [] s₀ s1 H1 w0 gi st n1 (Nat.add_zero _)
  show Seg _ A _ _ _ s₀ _ ((compStart (.GeneratorExp elt [⟨tg, iter, [], 0⟩] scope pos) 0 (.ref it) .none cenv).onRaise (leaving cenv)) [] s1
  unfold compStart
  rw [Sem.onRaise_eq_wrap]
  show Seg _ A _ _ _ s₀ _ ((ask >>= _).wrap _ _ _ _) [] s1
  refine seg_bind_wrap (wpAny_askSetting ?_)
  split
  · exact seg_again rfl loop
  · first
    | exact seg_bind_wrap (wpAny_rule (seg_bind_wrap (wpAny_standAt (seg_bind_wrap (T.self _ 0 s1 _ _ st (seg_again rfl loop))))))
    | (refine seg_bind_wrap (wpAny_rule ?_)
       show Seg _ A _ _ _ s₀ _ ((standAt iter.pos >>= _).wrap _ _ _ _) [] s1
       exact seg_bind_wrap (wpAny_standAt (seg_bind_wrap (T.self _ 0 s1 _ _ st (seg_again rfl loop)))))
end
section
variable {X : Cx} {pins : List (Addr × Obj)} {σ : L2.St} {H : Hp} {s : Shared}
/-- a generator that stands ready: its frame at the size of s, its object behind it -/
theorem gx_made {scope : Scope} {own : List (Str × Nat)} {fp : List Addr} {code : Value} {it : Addr} {tn : Nat → Heap → Prop} {J : It} {tg elt iter : Expr} {pos : Pos} {g : TG} {te : TE} {Q : List V → Hp → Prop} {W : Nat → Nat → List V → Hp → Prop} {k m : Nat}
    (I : L2.Inv X pins σ H s) (ok : BlkOk X.N X.env.scope scope own) (hN : X.N.Nodup) (nc : ∀ y ∈ scope.names, y.2 ≠ .cell) (hco : scope.isCoroutine = false) (hc : X.calm = true)
    (T : Turn X.prog X.w X.K tg J fp it tn) (st : tn 0 s.heap) (hfp : ∀ b ∈ fp, FpOk X pins H b ∧ b < s.heap.objs.size)
    (pg : ∀ A pn, PG (gx X A s H (gxEnv X scope s code) fp pn) tg g) (pe : ∀ A pn, PE (gx X A s H (gxEnv X scope s code) fp pn) elt te)
    (w0 : W 0 m [] H) (turn : Turns J g te (own.map (·.2)) σ Q W) {h' : Heap} {go : Obj} {nm qn : Value} {tk : Nat} {mC : Str → Option Value}
    (hC : h'.Ns s.heap.objs.size mC) (hsz : h'.objs.size = s.heap.objs.size + 1) (kp : ∀ b o, s.heap.get? b = some o → h'.get? b = some o)
    (hgc : go.cls = .type "generator") (hgd : go.data = .fields #[.int s.gens.size 0, nm, qn]) (hgs : go.slots = #[]) (hgp : (h'.push go).get? h'.objs.size = some go) :
    GMade X.prog X.w k X.stack H s fp Q E0 (.ref h'.objs.size) { s with gens := s.gens.push (.fresh (.compStart (.GeneratorExp elt [⟨tg, iter, [], 0⟩] scope pos) 0 (.ref it) .none (gxEnv X scope s code))), toks := tk, heap := h'.push go } := by
  have isg : ∀ h : Heap, h.get? h'.objs.size = some go → h.IsGen h'.objs.size s.gens.size := fun h e => ⟨go, nm, qn, e, hgc, hgd, hgs⟩
  have kp5 : ∀ b o, s.heap.get? b = some o → (h'.push go).get? b = some o := fun b o e => Heap.get?_push_of_some _ (kp b o e)
  refine ⟨h'.objs.size, s.gens.size, _, rfl, by omega, ?_, isg _ hgp, Array.getElem?_push_size .., rfl, AllBare.push I.bare rfl, I.nolimit.keeps kp5, kp5, ?_⟩
  · show _ < (h'.push go).objs.size
    rw [Heap.size_push]
    exact Nat.lt_succ_self _
  · intro Aw S s2 room hfr hSz hk2 hSo hos hba
    obtain ⟨cS, heS⟩ := hSo
    have hk2' : ∀ b o, (h'.push go).get? b = some o → s2.heap.get? b = some o := hk2
    have hSz' : h'.objs.size + 1 ≤ S := by
      have z : (h'.push go).objs.size ≤ S := hSz
      rw [Heap.size_push] at z
      exact z
    have ea : s2.heap.get? h'.objs.size = some go := hk2' _ _ hgp
    have lS : s.heap.objs.size < S := by omega
    have lH : h'.objs.size < S := by omega
    have lh : s.heap.objs.size < h'.objs.size := by omega
    have young : ∀ b, s.heap.objs.size < b → H b = none ∧ b ≠ s.heap.objs.size ∧ b ∉ frs X.stack := by
      intro b hb
      refine ⟨I.hok.fresh (Nat.le_of_lt hb), Nat.ne_of_gt hb, fun z => ?_⟩
      rcases List.mem_cons.mp (I.stkSub b z) with z | z
      · rw [z] at hb
        exact absurd (Nat.lt_trans hb I.lt) (Nat.lt_irrefl _)
      · exact I.nofs (Nat.le_of_lt hb) z
    have pinOk : ∀ p ∈ [(h'.objs.size, go)] ++ [(S, lstObj #[] cS)], s2.heap.get? p.1 = some p.2 ∧ H p.1 = none ∧ p.1 ≠ s.heap.objs.size ∧ p.1 ∉ frs X.stack ∧ ∀ v, p.2.data ≠ .cell v := by
      intro p hp
      rcases List.mem_append.mp hp with z | z
      · rw [List.mem_singleton.mp z]
        obtain ⟨y1, y2, y3⟩ := young h'.objs.size (by omega)
        exact ⟨ea, y1, y2, y3, fun v q => by rw [show go.data = _ from hgd] at q; cases q⟩
      · rw [List.mem_singleton.mp z]
        obtain ⟨y1, y2, y3⟩ := young S (by omega)
        exact ⟨heS, y1, y2, y3, fun v q => by cases q⟩
    have I2 := gx_inv (own := own) (code := code) (A := Aw) (pn := [(h'.objs.size, go)]) (pins5 := [(S, lstObj #[] cS)]) I ok hN nc hfp room.hd hfr (fun b o e => hk2' b o (kp5 b o e))
      ⟨mC, hC.keeps fun b o e => hk2' b o (Heap.get?_push_of_some _ e)⟩ hos hba pinOk
    have hcell : ∀ x c, (cloFrom X.env.cells scope.names []).lookup x = some c → c < s.heap.objs.size := by
      intro x c e
      obtain ⟨v, z⟩ := I2.cell x c e
      rcases cloFrom_mem (PySem.mem_of_lookup e) with z2 | ⟨h1, rfl⟩
      · cases z2
      · obtain ⟨c2, hc2⟩ : ∃ c2, X.env.cells.lookup x = some c2 := (ok.free _ h1 rfl).elim (fun k => I.ok.has _ (.inl k)) (fun k => I.ok.has _ (.inr k))
        obtain ⟨_, z3⟩ := I.cell _ _ hc2
        rw [hc2]
        exact z3.lt
    have ap : Apart (gx X Aw s H (gxEnv X scope s code) fp [(h'.objs.size, go)]) S := ⟨by show s.heap.objs.size ≤ S; omega, Nat.ne_of_gt lS, fun x c e => Nat.ne_of_lt (Nat.lt_of_lt_of_le (hcell x c e) (by omega))⟩
    have seg := gx_start (iter := iter) (scope := scope) (pos := pos) (S := S) (s₀ := s2) hc T (pg Aw [(h'.objs.size, go)]) (pe Aw [(h'.objs.size, go)]) hco (fun p hp => by rw [List.mem_singleton.mp hp]; exact Nat.ne_of_lt lH)
      (fun b hb => Nat.ne_of_gt (Nat.lt_trans (hfp b hb).2 lS)) (fun b hb p hp => by rw [List.mem_singleton.mp hp]; exact Nat.ne_of_gt (Nat.lt_trans (hfp b hb).2 lh)) ap turn w0 ⟨#[], cS, .nil, I2⟩
      (T.keep _ _ _ st fun b _ o e => hk2' b o (kp5 b o e)) (fun b hb => (hfp b hb).1.1)
    refine seg_imp (fun n s₀ r s1 hR => ?_) (fun n s₀ v s1 kap kap' hkk hY => ?_) sizeLine seg
    · obtain ⟨rfl, ys, σ', ip, H', hn, gi, hq⟩ := hR
      obtain ⟨a1, _, _, acc, cc, ra, ea⟩ := gi.at
      obtain ⟨_, _, _, J1⟩ := gi
      exact .inl ⟨.inr rfl, H', ys, acc, cc, J1.os, J1.bare, J1.base, J1.hok, a1, ea, ra, by omega, hq⟩
    · obtain ⟨ys, xx, ip, σ', H', hn, h2, gi, h3⟩ := hY
      obtain ⟨_, _, _, acc, cc, ra, ea⟩ := gi.at
      obtain ⟨_, _, _, J1⟩ := gi
      have hg : s1.heap.IsGen h'.objs.size s.gens.size := isg _ (J1.pin (h'.objs.size, go) (List.mem_append_left _ (List.mem_singleton.mpr rfl))).1
      have len : acc.size = ys.length := by
        have e1 := ra.length
        have e2 : acc.toList.length = acc.size := by simp
        omega
      exact ⟨J1.os, J1.bare, J1.nolimit, hg, ⟨acc, cc, ea, by rw [len]; exact hn⟩, fun s' z => hkk _ _ (h3 s' z)⟩
end
/-! ### tuple(generator) -/
section
variable {P : Program} {w : World} {outer : List Env} {H : Hp} {sc s : Shared} {ex : List Addr} {Q : List V → Hp → Prop} {A : Around} {k : Nat} {E : Value → Shared → Prop}
theorem collect_made {u : Value} {Qc : List Value → Shared → Prop} (hr : Room (k + 3) A) (hfr : A.frames = some outer) (h : GMade P w k outer H sc ex Q E0 u s)
    (hQ : ∀ (s' : Shared) (acc : List Value) (H' : Hp) (ys : List V), L2.Vals ys acc → ys.length ≤ sizeLine → s'.os = sc.os → AllBare s'.gens → Un (frs outer) ex H H' sc.heap s'.heap → HOk P w H' s'.heap → Q ys H' → Qc acc s')
    (hexc : ∀ e s', ¬ CX P w outer H sc E0 e s') : wpAny (model P w) A (collect u) Qc E s := by
  obtain ⟨a, g, c, rfl, ha1, ha2, hg, hgs, hos, hb, hl, hkp, wake⟩ := h
  have hSa : s.heap.objs.size ≠ a := Nat.ne_of_gt ha2
  have hSc : s.heap.objs.size ≠ cStatics := Nat.ne_of_gt (let ⟨_, hn, _⟩ := hl; hn.lt)
  unfold collect
  refine wpAny_bind (wpAny_runValue (codeAny_builtin F.entry_proto_collect ?_))
  rw [Around.under_plainId F.plain_proto_collect _]
  show wpAny _ A.in1 (newList [] >>= fun l0 => again (.builtin "list.__iadd__" ⟨[l0, .ref a], []⟩)) _ _ s
  refine wpAny_bind (wpAny_newObj_type ?_)
  refine wpAny_pure ⟨plainId_quiet F.plain_list_iadd _, codeAny_builtin F.entry_list_iadd ?_⟩
  rw [Around.under_plainId F.plain_list_iadd _]
  show wpAny _ A.in1 (Builtin.List.listExtendWith (.ref s.heap.objs.size) (.ref a) (.ref s.heap.objs.size)) _ _ _
  unfold Builtin.List.listExtendWith
  have up : ∀ (h : Heap) (f : Obj → Obj), (∀ b o, s.heap.get? b = some o → h.get? b = some o) → ∀ b o, s.heap.get? b = some o → (h.update s.heap.objs.size f).get? b = some o := by
    intro h f q b o e
    exact (Heap.get?_update_other _ _ (Ne.symm (Nat.ne_of_lt (Heap.lt_size e)))).trans (q b o e)
  have k1 : ∀ b o, s.heap.get? b = some o → (s.heap.push { cls := .type "list", data := .seq ([] : List Value).toArray }).get? b = some o := fun b o e => Heap.get?_push_of_some _ e
  have isg : ∀ {h : Heap}, (∀ b o, s.heap.get? b = some o → h.get? b = some o) → h.IsGen a g := fun q => hg.keeps q
  refine wpAny_bind (wpAny_typeOf (Heap.IsGen.typeIs (s := { s with heap := _ }) (isg k1)) ?_)
  have h1 : Builtin.List.listSameRef (.ref s.heap.objs.size) (.ref a) = false := by simp [Builtin.List.listSameRef, hSa]
  have h2 : (Value.type "generator" == Value.type "list") = false := by decide
  have h3 : (Value.type "generator" == Value.type "tuple") = false := by decide
  simp only [h1, h2, h3, Bool.or_false, Bool.false_eq_true, if_false]
  refine wpAny_bind (wpAny_pyIter_gen (s := { s with heap := _ }) (isg k1) ?_)
  refine wpAny_bind (wpAny_holding ?_)
  unfold Builtin.List.listLengthHint
  refine wpAny_bind (wpAny_specialOf (Heap.IsGen.typeIs (s := { s with heap := _ }) (isg k1)) F.gen_no_len ?_)
  show wpAny _ A.in1 (specialOf (Value.ref a) (Str.ofString "__length_hint__") >>= _) _ _ _
  refine wpAny_bind (wpAny_specialOf (Heap.IsGen.typeIs (s := { s with heap := _ }) (isg k1)) F.gen_no_hint ?_)
  refine wpAny_pure ?_
  show wpAny _ A.in1 (rule "list.extend.makes-room" >>= fun _ => Builtin.List.listTouch (.ref s.heap.objs.size) >>= fun _ => again (.builtin "list.extend.loop" ⟨[.ref s.heap.objs.size, .ref a, .ref s.heap.objs.size], []⟩)) _ _ _
  refine wpAny_bind (wpAny_rule (wpAny_bind ?_))
  have hS1 : (s.heap.push { cls := .type "list", data := .seq ([] : List Value).toArray }).get? s.heap.objs.size = some { cls := .type "list", data := .seq ([] : List Value).toArray } := Heap.get?_push_size _ rfl
  show wpAny _ A.in1 (updateSeq s.heap.objs.size (·.push .none) >>= fun _ => updateSeq s.heap.objs.size (·.pop)) _ _ _
  refine wpAny_bind (wpAny_updateSeq hS1 rfl ?_)
  have hS2 := Heap.get?_update_self (Obj.mapSeq (·.push Value.none)) hS1 rfl
  refine wpAny_updateSeq hS2 rfl ?_
  have hS3 := Heap.get?_update_self (Obj.mapSeq (·.pop)) hS2 rfl
  have k3 := up _ (Obj.mapSeq (·.pop)) (up _ (Obj.mapSeq (·.push Value.none)) k1)
  refine wpAny_pure ⟨plainId_quiet F.plain_extend_loop _, ?_⟩
  refine drain (P := P) (w := w) (outer := outer) (H := H) (sc := sc) (ex := ex) (Q := Q) (EX := E0) (A := A) (g := g) hr.hd (by have := hr.dp; show A.depth < _; omega) hSa hSc
    (fun s' acc c H' ys q1 q2 q3 q4 q5 q6 q7 q8 q9 => ?_) (fun e s' z => (hexc e s' z).elim) sizeLine _ (isg k3) (hl.keeps k3) ⟨_, hgs, rfl, ?_⟩
  · show wpAny _ A (load s.heap.objs.size >>= _) _ _ s'
    refine wpAny_bind (wpAny_load q1 ?_)
    exact wpAny_pure (hQ s' acc.toList H' ys q2 q3 q4 q5 q6 q7 q9)
  · refine wake _ _ _ ⟨hr.hd, ?_, ?_⟩ hfr (Nat.le_refl _) k3 ⟨_, hS3⟩ hos (allBare_setGen (s := { s with heap := _ }) hb rfl)
    · have := hr.dp
      show A.depth + 3 * k + 5 < _
      omega
    · have := hr.un
      show A.units + 1 + 1 + 16 * k + 200 < _
      omega
theorem tuple_new_made {u : Value} {Q1 : Value → Shared → Prop} (hr : Room (k + 4) A) (hfr : A.frames = some outer) (h : GMade P w k outer H sc ex Q E0 u s)
    (hQ : ∀ (s' : Shared) (acc : List Value) (H' : Hp) (ys : List V), L2.Vals ys acc → ys.length ≤ sizeLine → s'.os = sc.os → AllBare s'.gens → Un (frs outer) ex H H' sc.heap s'.heap → HOk P w H' s'.heap → Q ys H' →
      Q1 (.ref s'.heap.objs.size) { s' with heap := s'.heap.push { cls := .type "tuple", data := .seq acc.toArray } })
    (hexc : ∀ e s', ¬ CX P w outer H sc E0 e s') : codeAny (model P w) A (.call (.builtin "tuple.__new__") ⟨[.type "tuple", u], []⟩) (wants Q1 E) s := by
  obtain ⟨a, g, c, ea, _, _, hg, _⟩ := id h
  subst ea
  refine codeAny_of_tree ?_
  show wpAny _ A.in1 (do checkBuiltinCall "tuple.__new__" ⟨[.type "tuple", .ref a], []⟩; again (.builtin "tuple.__new__" ⟨[.type "tuple", .ref a], []⟩)) _ _ s
  refine wpAny_bind (wpAny_of_eq (F.newCall_tuple_1 _) (wpAny_pure ⟨plainId_quiet F.plain_tuple_new _, codeAny_builtin F.entry_tuple_new ?_⟩))
  rw [Around.under_plainId F.plain_tuple_new _]
  have hsub := sub_tuple_self
  have hinit := init_tuple_lookup
  have hmh := madeHere_tuple
  have hTI := hg.typeIs
  have hr1 : Room (k + 3) A.in1 := hr.in1
  wp_walk using wpAny_typeOf hTI, collect_made hr1 hfr h
  · intro s' acc H' ys q1 q2 q3 q4 q5 q6 q7
    show wpAny _ _ (Builtin.Tuple.tupleExact acc.toArray >>= fun v => ret v) _ _ _
    unfold Builtin.Tuple.tupleExact
    refine wpAny_bind (wpAny_newObj_type ?_ (by show acc.toArray.size ≤ sizeLine; rw [List.size_toArray, ← q1.length]; exact q2))
    exact wpAny_pure (hQ s' acc H' ys q1 q2 q3 q4 q5 q6 q7)
  · exact hexc
theorem call_tuple_made {u : Value} {Q' : Value → Shared → Prop} (hr : Room (k + 5) A) (hfr : A.frames = some outer) (h : GMade P w k outer H sc ex Q E0 u s)
    (hQ : ∀ (s' : Shared) (acc : List Value) (H' : Hp) (ys : List V), L2.Vals ys acc → ys.length ≤ sizeLine → s'.os = sc.os → AllBare s'.gens → Un (frs outer) ex H H' sc.heap s'.heap → HOk P w H' s'.heap → Q ys H' →
      Q' (.ref s'.heap.objs.size) { s' with heap := s'.heap.push { cls := .type "tuple", data := .seq acc.toArray } })
    (hexc : ∀ e s', ¬ CX P w outer H sc E0 e s') : wpAny (model P w) A (call (.type "tuple") [u]) Q' E s := by
  refine callType_codes (Q₁ := fun obj s₁ => s₁.TypeIs obj "tuple" ∧ Q' obj s₁) F.called_tuple (F.typeCall_tuple_1 _) F.entry_object_init
    (tuple_new_made hr.in1 hfr h (fun s' acc H' ys q1 q2 q3 q4 q5 q6 q7 => ⟨⟨_, Heap.get?_push_size _ rfl, rfl⟩, hQ s' acc H' ys q1 q2 q3 q4 q5 q6 q7⟩) hexc) fun obj s₁ h₁ => ?_
  exact ⟨h₁.1, F.args_object_init_2 obj _, object_init_meets F.called_tuple.init.lookup F.called_tuple.made (by decide) P w A.in1 _ s₁ ⟨h₁.1, rfl, h₁.2⟩⟩
end
/-! ### the expression tuple(e for x in xs) -/
def tTupGx (P : Addr) (wi : TI) (g : TG) (te : TE) (vs : List Nat) : TE := fun σ H Q => wi σ H fun J H1 => GxR.TabG H1 P ∧ ∀ H2, GxR.Tabbed P H1 H2 →
  ∃ W : Nat → Nat → List V → Hp → Prop, (∃ m, W 0 m [] H2) ∧ Turns J g te vs σ (fun ys H' => ∀ p, H' p = none → Q (.ref p) (upd H' p (.tup ys))) W
section
variable {X : Cx}
theorem gx_eval {c P : Addr} {elt tg iter : Expr} {scope : Scope} {own : List (Str × Nat)} {gpos : Pos} {wi : TI} {g : TG} {te : TE} {pins : List (Addr × Obj)} {s : Shared} {σ : L2.St} {H : Hp} {R : List V → Hp → Prop} {Q' : Value → Shared → Prop} (hc : X.calm = true) (hr : Room 5 X.A) (hN : X.N.Nodup)
    (TB : GxR.TabB X.base X.mg c P) (hcode : X.env.code = .ref c) (hi : PI X tg iter wi) (ok : BlkOk X.N X.env.scope scope own) (nc : ∀ y ∈ scope.names, y.2 ≠ .cell) (hco : scope.isCoroutine = false) (dot : scope.names.lookup (".0" : Str) = some NameKind.local)
    (pg : ∀ (A : Around) (s : Shared) (H : Hp) (code : Value) (fp : List Addr) (pn : List (Addr × Obj)), PG (gx X A s H (gxEnv X scope s code) fp pn) tg g)
    (pe : ∀ (A : Around) (s : Shared) (H : Hp) (code : Value) (fp : List Addr) (pn : List (Addr × Obj)), PE (gx X A s H (gxEnv X scope s code) fp pn) elt te)
    (hs : ∀ v, genFold iter X.env v = pure v) (I : L2.Inv X pins σ H s)
    (h : wi σ H fun J H1 => GxR.TabG H1 P ∧ ∀ H2, GxR.Tabbed P H1 H2 → ∃ W : Nat → Nat → List V → Hp → Prop, (∃ m, W 0 m [] H2) ∧ Turns J g te (own.map (·.2)) σ R W)
    (hQ : ∀ (u : Value) (s5 sc : Shared) (H2 : Hp) (fp : List Addr), L2.Inv X pins σ H2 sc → (∀ b ∈ fp, FpOk X pins H2 b) → GMade X.prog X.w 0 X.stack H2 sc fp R E0 u s5 → Q' u s5) :
    wpAny (model X.prog X.w) X.A (eval (.GeneratorExp elt [⟨tg, iter, [], 0⟩] scope gpos) X.env) Q' X.xe s := by
  have hfree : ∀ y ∈ scope.names, y.2 = .free → ∃ c, X.env.cells.lookup y.1 = some c := by
    intro y hy e
    exact (ok.free y hy e).elim (fun k => I.ok.has _ (.inl k)) (fun k => I.ok.has _ (.inr k))
  refine wpAny_GeneratorExp_make hco (closure_ok hfree) nc dot ok.kind (by have := hr.dp; omega) ?_ hs
  refine thn (hi.run pins s σ H _ I h) fun xv s1 h1 => thn h1 fun itv s2 h2 => ?_
  obtain ⟨it, fp, tn, J, H1, e, I2, T, st2, f2, ⟨ps, hP, ht⟩, q⟩ := h2
  subst e
  have hPs : s2.heap.get? P = some { cls := .none, data := .fields ps } := I2.hok P _ hP
  have cd : PySem.W.CodeHd s2.heap c P := TB.code.keeps I2.bk
  have nP : ∀ b ∈ fp, b ≠ P := fun b hb z => by
    have y := (f2 b hb).1
    rw [z, hP] at y
    cases y
  have hcP : cStatics ≠ P := fun e => by
    obtain ⟨_, hns, _⟩ := I2.nolimit
    obtain ⟨o', es, ep, ho, hd, _⟩ := hns
    rw [e, hPs] at ho
    cases ho
    cases hd
  refine ⟨I2.nolimit, ?_⟩
  have cont : ∀ (code : Value) (h3 : Heap) (tk : Nat) (ps' : Array Value), Heap.ExtBut P s2.heap h3 → s2.heap.objs.size ≤ h3.objs.size → h3.get? P = some { cls := .none, data := .fields ps' } → (∃ more, ps' = ps ++ more) → TriplesOk ps'.toList →
      wpAny (model X.prog X.w) X.A (builtinsFor X.env.globals X.env.builtins) (fun bi s₄ => ∀ h', h'.Ns s₄.heap.objs.size (fun y => if y = ".0" then some (Value.ref it) else none) → Heap.SameBut s₄.heap.objs.size (s₄.heap.push { cls := .type "frame", data := .dict #[] }) h' →
        Q' (Value.ref h'.objs.size) ({ s₄ with
          gens := s₄.gens.push (.fresh (.compStart (.GeneratorExp elt [⟨tg, iter, [], 0⟩] scope gpos) 0 (.ref it) .none (genEnv scope (cloFrom X.env.cells scope.names []) s₄.heap.objs.size code bi X.env))),
          toks := s₄.toks + 1 + 1 + 1,
          heap := h'.push { cls := .type "generator", data := .fields #[.int s₄.gens.size 0, .str "<genexpr>" (s₄.toks + 1), .str (X.env.qual ++ "<genexpr>") (s₄.toks + 1 + 1)] } } : Shared)) X.xe { s2 with heap := h3, toks := tk } := by
    intro code h3 tk ps' hx hsz hP3 hmore ht3
    obtain ⟨bm, ob, e1, e2, e3, e4, e5, e6, e7, e8⟩ := TB.bm
    have keep3 : ∀ b u, b ≠ P → s2.heap.get? b = some u → h3.get? b = some u := fun b u hb e => hx b u hb e
    refine wpAny_builtinsFor (m := X.mg) (by rw [I2.ok.glob]; exact (I2.mod.glob.keeps I2.bk).extBut hx TB.gP) e1 e2 (keep3 _ _ e4 (I2.bk _ _ e5)) e6 e7 e8 ?_
    intro h' hn' hs'
    obtain ⟨more, em⟩ := hmore
    have I3 : L2.Inv X pins σ (upd H1 P (.tbl (ps ++ more))) { s2 with heap := h3, toks := tk } :=
      GxR.inv_tab (more := more) (h' := h3) (g' := s2.gens) (d' := s2.drawn) (t' := tk) I2 hP keep3 (by rw [← em]; exact hP3) I2.bare
    obtain ⟨W, ⟨m, w0⟩, turn⟩ := q _ (show GxR.Tabbed P H1 (upd H1 P (.tbl (ps ++ more))) from ⟨⟨ps ++ more, upd_same, by rw [← em]; exact ht3⟩, fun b hb => upd_ne hb⟩)
    have fp3 : ∀ b ∈ fp, FpOk X pins (upd H1 P (.tbl (ps ++ more))) b ∧ b < h3.objs.size := by
      intro b hb
      obtain ⟨o, eo, _⟩ := T.obj _ _ st2 b hb
      refine ⟨⟨by rw [upd_ne (nP b hb)]; exact (f2 b hb).1, (f2 b hb).2⟩, Nat.lt_of_lt_of_le (Heap.lt_size eo) hsz⟩
    have st3 : tn 0 h3 := T.keep _ _ _ st2 fun b hb o e => keep3 b o (nP b hb) e
    have hsz' : h'.objs.size = h3.objs.size + 1 := by
      rw [hs'.1, Heap.size_push]
    have kp' : ∀ b o, h3.get? b = some o → h'.get? b = some o := fun b o e => hs'.extBut b o (Nat.ne_of_lt (Heap.lt_size e)) (Heap.get?_push_of_some _ e)
    have made := gx_made (k := 0) (own := own) (code := code) (iter := iter) (pos := gpos) (tk := tk + 1 + 1 + 1) I3 ok hN nc hco hc T st3 fp3 (fun A pn => pg A _ _ code fp pn) (fun A pn => pe A _ _ code fp pn) w0 turn hn' hsz' kp'
      (go := { cls := .type "generator", data := .fields #[.int s2.gens.size 0, .str "<genexpr>" (tk + 1), .str (X.env.qual ++ "<genexpr>") (tk + 1 + 1)] }) rfl rfl rfl (Heap.get?_push_size _ rfl)
    exact hQ _ _ _ _ fp I3 (fun b hb => (fp3 b hb).1) made
  cases hf : codeAmong gpos ps.toList with
  | none =>
    refine wpAny_genexprCodeX hcode (cd.code hPs ht) (cd.tab hPs) hf fun c' h' tk hx hge hlt hco' _ htab' _ => ?_
    obtain ⟨o1, vs, f1, tf, fl, tg', inF, tx, tt, op, _, _, _, _, _, _, _, _, _, htr, _⟩ := hco'
    exact cont _ h' tk _ hx (Nat.le_trans hge (Nat.le_of_lt hlt)) htab'.2 ⟨_, rfl⟩ htr
  | some cv =>
    refine wpAny_genexprCode_hit hcode (cd.code hPs ht) hf ?_
    exact cont cv s2.heap s2.toks ps (Heap.ExtBut.refl _ _) (Nat.le_refl _) hPs ⟨#[], by simp⟩ ht
theorem pe_tupGx {c P : Addr} {elt tg iter : Expr} {scope : Scope} {own : List (Str × Nat)} {p pos gpos : Pos} {wi : TI} {g : TG} {te : TE} (hc : X.calm = true) (hr : Room 5 X.A) (hN : X.N.Nodup) (hg : Gl X "tuple") (hm : X.mg "tuple" = none)
    (TB : GxR.TabB X.base X.mg c P) (hcode : X.env.code = .ref c) (hi : PI X tg iter wi) (ok : BlkOk X.N X.env.scope scope own) (nc : ∀ y ∈ scope.names, y.2 ≠ .cell) (hco : scope.isCoroutine = false) (dot : scope.names.lookup (".0" : Str) = some NameKind.local)
    (pg : ∀ (A : Around) (s : Shared) (H : Hp) (code : Value) (fp : List Addr) (pn : List (Addr × Obj)), PG (gx X A s H (gxEnv X scope s code) fp pn) tg g)
    (pe : ∀ (A : Around) (s : Shared) (H : Hp) (code : Value) (fp : List Addr) (pn : List (Addr × Obj)), PE (gx X A s H (gxEnv X scope s code) fp pn) elt te)
    (hs : ∀ v, genFold iter X.env v = pure v)
    (he : starEach [.GeneratorExp elt [⟨tg, iter, [], 0⟩] scope gpos] X.env = (false, eval (.GeneratorExp elt [⟨tg, iter, [], 0⟩] scope gpos) X.env) :: starEach [] X.env := by rfl) :
    PE X (.Call (.Name "tuple" p) [.GeneratorExp elt [⟨tg, iter, [], 0⟩] scope gpos] [] pos) (tTupGx P wi g te (own.map (·.2))) := by
  refine ⟨fun pins s σ H Q I h => ?_⟩
  refine Call_ (ld_blt I hg hm boot_tuple (PyProof.Rows.callWith_type1 (args_cons ?_ he) he rfl))
  refine gx_eval hc hr hN TB hcode hi ok nc hco dot pg pe hs I h fun u s5 sc H2 fp I3 fp3 made => args_nil ?_
  refine call_tuple_made hr I.ok.frames made (fun s' acc H' ys q1 q2 q3 q4 q5 q6 q7 => ?_) (fun e s' z => ?_)
  · have J3 : L2.Inv X pins σ H' s' := I3.call' (ch := fp) q3 q5 q6 q4 fun b hb => ⟨(fp3 b hb).2.2.2.1, (fp3 b hb).2.1, (fp3 b hb).2.2.2.2.1, (fp3 b hb).2.2.2.2.2⟩
    refine ⟨.ref _, _, J3.laid (t' := s'.toks) (o := .tup ys) (fun b ob z => Heap.get?_push_of_some _ z) (Nat.le_refl _) ?_, rfl, q7 _ (J3.hok.fresh (Nat.le_refl _))⟩
    exact ⟨q2, acc, q1, _, Heap.get?_push_size _ rfl, rfl, _, rfl⟩
  · obtain ⟨_, _, _, _, _, _, _, _, _, _, _, _, z⟩ := z
    exact z
end
end Gx
set_option maxHeartbeats 4000000
/-! tuple * int, also by 0 and by 1. -/
namespace Gx
open PySem PySem.Spec PyProof.Rows L2
theorem tuple_mul1 (l : Addr) (items : Array Value) (n : Nat) (dd : Option Addr) (sl : Array (Option Value)) (u : Tok) :
    Meets (Builtin.«tuple.__mul__» ⟨[.ref l, .int 1 u], []⟩) (fun _ R s => s.heap.get? l = some { cls := .type "tuple", dict := dd, data := .seq items n, slots := sl } ∧ R (.ok (.ret (Value.ref l))) s) :=
  .of_wp fun prog w A R s h => by
    obtain ⟨hp, g, d, tk, os⟩ := s
    obtain ⟨hl, h⟩ := h
    have f1 := AutoSeq1.idx_int
    wp_walk using wpAny_loadPart' hl
    repeat (first
      | (refine wpAny_ite_false (decide_eq_false (by decide)) ?_; wp_walk using wpAny_loadPart' hl)
      | (refine wpAny_ite_true (decide_eq_true (by simp)) ?_; wp_walk using wpAny_loadPart' hl))
    exact ⟨_, rfl, h⟩
theorem tuple_mul0 (l : Addr) (items : Array Value) (n : Nat) (dd : Option Addr) (sl : Array (Option Value)) (u : Tok) (c1 : items.isEmpty = false) :
    Meets (Builtin.«tuple.__mul__» ⟨[.ref l, .int 0 u], []⟩) (fun _ R s => s.heap.get? l = some { cls := .type "tuple", dict := dd, data := .seq items n, slots := sl } ∧
      R (.ok (.ret (Value.ref s.heap.objs.size))) { s with heap := s.heap.push { cls := Value.type "tuple", data := Data.seq #[] }, toks := s.toks }) :=
  .of_wp fun prog w A R s h => by
    obtain ⟨hp, g, d, tk, os⟩ := s
    obtain ⟨hl, h⟩ := h
    have f1 := AutoSeq1.idx_int
    wp_walk using wpAny_loadPart' hl
    repeat (first
      | (refine wpAny_ite_false (decide_eq_false (by decide)) ?_; wp_walk using wpAny_loadPart' hl)
      | (refine wpAny_ite_false (decide_eq_false (by rw [c1]; decide)) ?_; wp_walk using wpAny_loadPart' hl)
      | (refine wpAny_ite_true (decide_eq_true (by simp)) ?_; wp_walk using wpAny_loadPart' hl))
    exact ⟨_, rfl, h⟩
def rRepA (K : PySem.W.Frag) : R2 := fun x y H Q => ∃ l k xs, x = .ref l ∧ y = .int k ∧ SqT K H l xs ∧ xs ≠ [] ∧ 0 ≤ k ∧ k ≤ 1000 ∧ xs.length ≤ 1000 ∧ (k = 1 → Q (.ref l) H) ∧ (k ≠ 1 → ∀ p, H p = none → Q (.ref p) (upd H p (.tup (List.replicate k.toNat xs).flatten)))
section
variable {X : Cx}
theorem op_repA : OpR X (binaryOp .Mult) (rRepA X.K) := by
  intro pins s σ H x y v u Q I rx ry h
  obtain ⟨l, k, xs, rfl, rfl, hT, hne, h1, h2, hz, q1, q⟩ := h
  by_cases k2 : 2 ≤ k
  · exact op_repT pins s σ H _ _ v u Q I rx ry ⟨l, k, xs, rfl, rfl, hT, hne, k2, h2, hz, q (by omega)⟩
  · cases rx
    obtain ⟨t, rfl⟩ := ry
    have hT0 := hT
    obtain ⟨its, r, ⟨⟨cls, dd, data, sl⟩, ho, hc, n, hd⟩, hs⟩ := I.tuple hT
    simp only at hc hd
    subst hc hd
    have hle : its.length = xs.length := r.length.symm
    have hn : its ≠ [] := fun e => hne (by
      rw [e] at hle
      exact List.eq_nil_of_length_eq_zero hle.symm)
    have hi : its.toArray.isEmpty = false := by
      cases its with
      | nil => exact absurd rfl hn
      | cons a b => rfl
    rcases (show k = 0 ∨ k = 1 by omega) with rfl | rfl
    · refine wpAny_binaryOp_repeat_ref (T := "tuple") (U := "int") (by decide) ⟨_, ho, rfl⟩ (fun s' => typeIs_int s' 0 t) noFill_tuple_mul F.fills_int_mul F.slot_int_rmul repeat_tuple F.slot_int_index.lookup
        (call_meets F.slot_int_rmul (typeIs_int s 0 t) F.entry_int_rmul (F.args_int_rmul_2 _ _) (int_rmul_tuple 0 t l its.toArray n dd sl)
          ⟨ho, rfl, ⟨_, ho, rfl⟩, call_meets F.slot_tuple_mul ⟨_, ho, rfl⟩ F.entry_tuple_mul (F.args_tuple_mul_2 _ _) (tuple_mul0 l its.toArray n dd sl t hi) ⟨ho, ?_⟩⟩)
      refine ⟨.ref s.heap.objs.size, _, I.laid (t' := s.toks) (o := .tup []) (fun b ob q => Heap.get?_push_of_some _ q) (Nat.le_refl _) ?_, rfl, q (by decide) _ (I.hok.fresh (Nat.le_refl _))⟩
      exact ⟨by simp [sizeLine_eq], [], .nil, IsTup.new _ _⟩
    · refine wpAny_binaryOp_repeat_ref (T := "tuple") (U := "int") (by decide) ⟨_, ho, rfl⟩ (fun s' => typeIs_int s' 1 t) noFill_tuple_mul F.fills_int_mul F.slot_int_rmul repeat_tuple F.slot_int_index.lookup
        (call_meets F.slot_int_rmul (typeIs_int s 1 t) F.entry_int_rmul (F.args_int_rmul_2 _ _) (int_rmul_tuple 1 t l its.toArray n dd sl)
          ⟨ho, rfl, ⟨_, ho, rfl⟩, call_meets F.slot_tuple_mul ⟨_, ho, rfl⟩ F.entry_tuple_mul (F.args_tuple_mul_2 _ _) (tuple_mul1 l its.toArray n dd sl t) ⟨ho, ?_⟩⟩)
      exact ⟨.ref l, H, I, rfl, q1 rfl⟩
end
end Gx
set_option linter.all false
namespace Lin
/-! rows as functions Nat → Int, round a prime p: spans, and what clearing by leads tells -/
def Cg (p a b : Int) : Prop := ∃ c, a = b + p * c
theorem Cg.rfl' {p a : Int} : Cg p a a := ⟨0, by simp⟩
theorem Cg.mod {p : Int} (a : Int) : Cg p (a % p) a := ⟨-(a / p), by have := Int.emod_def a p; rw [Int.mul_neg]; omega⟩
theorem Cg.add {p a b c d : Int} (h : Cg p a b) (k : Cg p c d) : Cg p (a + c) (b + d) := by
  obtain ⟨x, rfl⟩ := h
  obtain ⟨y, rfl⟩ := k
  exact ⟨x + y, by grind⟩
theorem Cg.sub {p a b c d : Int} (h : Cg p a b) (k : Cg p c d) : Cg p (a - c) (b - d) := by
  obtain ⟨x, rfl⟩ := h
  obtain ⟨y, rfl⟩ := k
  exact ⟨x - y, by grind⟩
theorem Cg.mul {p a b c d : Int} (h : Cg p a b) (k : Cg p c d) : Cg p (a * c) (b * d) := by
  obtain ⟨x, rfl⟩ := h
  obtain ⟨y, rfl⟩ := k
  exact ⟨b * y + x * d + p * x * y, by grind⟩
theorem Cg.trans {p a b c : Int} (h : Cg p a b) (k : Cg p b c) : Cg p a c := by
  obtain ⟨x, rfl⟩ := h
  obtain ⟨y, rfl⟩ := k
  exact ⟨x + y, by grind⟩
theorem Cg.symm {p a b : Int} (h : Cg p a b) : Cg p b a := by
  obtain ⟨x, rfl⟩ := h
  exact ⟨-x, by grind⟩
abbrev Vc := Nat → Int
/-- alike round p -/
def Eqv (p : Int) (u v : Vc) : Prop := ∀ i, Cg p (u i) (v i)
theorem Eqv.refl {p : Int} {u : Vc} : Eqv p u u := fun _ => Cg.rfl'
theorem Eqv.symm {p : Int} {u v : Vc} (h : Eqv p u v) : Eqv p v u := fun i => (h i).symm
theorem Eqv.trans {p : Int} {u v w : Vc} (h : Eqv p u v) (k : Eqv p v w) : Eqv p u w := fun i => (h i).trans (k i)
/-- the lot of some rows: whatever sums of multiples make -/
inductive Lot (p : Int) (R : Vc → Prop) : Vc → Prop
  | zero : Lot p R fun _ => 0
  | add {u v : Vc} (c : Int) : Lot p R u → R v → Lot p R fun i => u i + c * v i
  | eqv {u v : Vc} : Lot p R u → Eqv p u v → Lot p R v
theorem Lot.of {p : Int} {R : Vc → Prop} {v : Vc} (h : R v) : Lot p R v := .eqv (.add 1 .zero h) fun i => ⟨0, by grind⟩
theorem Lot.comb {p : Int} {R : Vc → Prop} {u v : Vc} (c : Int) (h : Lot p R u) (k : Lot p R v) : Lot p R fun i => u i + c * v i := by
  induction k with
  | zero => exact .eqv h fun i => ⟨0, by grind⟩
  | add d _ r ih => exact .eqv (.add (c * d) ih r) fun i => ⟨0, by grind⟩
  | eqv _ e ih => exact .eqv ih fun i => Cg.rfl'.add (Cg.rfl'.mul (e i))
/-- a lot in another -/
theorem Lot.sub {p : Int} {R S : Vc → Prop} (h : ∀ v, R v → Lot p S v) {u : Vc} (k : Lot p R u) : Lot p S u := by
  induction k with
  | zero => exact .zero
  | add d _ r ih => exact Lot.comb d ih (h _ r)
  | eqv _ e ih => exact .eqv ih e
/-- leads: each place's row has 1 there and 0 at the other places -/
structure Leads (p : Int) (L : List (Nat × Vc)) : Prop where
  self : ∀ x ∈ L, Cg p (x.2 x.1) 1
  other : ∀ x ∈ L, ∀ y ∈ L, x.1 ≠ y.1 → Cg p (x.2 y.1) 0
def rowsOf (L : List (Nat × Vc)) : Vc → Prop := fun v => ∃ x ∈ L, x.2 = v
/-- the sum of the leads by a row's own numbers at their places -/
def own (u : Vc) : List (Nat × Vc) → Vc
  | [] => fun _ => 0
  | x :: L => fun i => u x.1 * x.2 i + own u L i
theorem own_lot {p : Int} {u : Vc} : ∀ (L : List (Nat × Vc)) {R : Vc → Prop}, (∀ x ∈ L, R x.2) → Lot p R (own u L)
  | [], _, _ => .zero
  | x :: L, _, h => .eqv (Lot.comb (u x.1) (own_lot (u := u) L fun y hy => h y (List.mem_cons_of_mem _ hy)) (Lot.of (h x (by simp)))) fun i => ⟨0, by simp only [own]; grind⟩
theorem own_comb {u v : Vc} {c : Int} : ∀ (L : List (Nat × Vc)) (i : Nat), own (fun j => u j + c * v j) L i = own u L i + c * own v L i
  | [], _ => by simp [own]
  | x :: L, i => by
    simp only [own]
    rw [own_comb L i]
    grind
theorem own_eqv {p : Int} {u v : Vc} (h : Eqv p u v) : ∀ L : List (Nat × Vc), Eqv p (own u L) (own v L)
  | [], _ => Cg.rfl'
  | x :: L, i => ((h x.1).mul Cg.rfl').add (own_eqv h L i)
theorem own_none {p : Int} {u : Vc} : ∀ {L : List (Nat × Vc)}, (∀ x ∈ L, Cg p (u x.1) 0) → Eqv p (own u L) fun _ => 0
  | [], _, _ => Cg.rfl'
  | x :: L, h, i => by
    have a := ((h x (by simp)).mul (Cg.rfl' (a := x.2 i))).add (own_none (L := L) (fun y hy => h y (List.mem_cons_of_mem _ hy)) i)
    have e : (0 : Int) * x.2 i + 0 = 0 := by simp
    rw [e] at a
    exact a
theorem own_lead {p : Int} {L : List (Nat × Vc)} (h : Leads p L) (nd : (L.map (·.1)).Nodup) {x : Nat × Vc} (hx : x ∈ L) : Eqv p (own x.2 L) x.2 := by
  induction L with
  | nil => cases hx
  | cons y L ih =>
    have nd' := List.nodup_cons.mp (by simpa using nd : (y.1 :: L.map (·.1)).Nodup)
    have hL : Leads p L := ⟨fun z hz => h.self z (List.mem_cons_of_mem _ hz), fun z hz w hw => h.other z (List.mem_cons_of_mem _ hz) w (List.mem_cons_of_mem _ hw)⟩
    intro i
    show Cg p (x.2 y.1 * y.2 i + own x.2 L i) (x.2 i)
    rcases List.mem_cons.mp hx with rfl | hx'
    · have a := (h.self x (by simp)).mul (Cg.rfl' (a := x.2 i))
      have b := own_none (p := p) (u := x.2) (L := L) (fun z hz => h.other x (by simp) z (List.mem_cons_of_mem _ hz) fun e => nd'.1 (by rw [e]; exact List.mem_map.mpr ⟨z, hz, rfl⟩)) i
      have c := a.add b
      have e : (1 : Int) * x.2 i + 0 = x.2 i := by simp
      rw [e] at c
      exact c
    · have ne : x.1 ≠ y.1 := fun e => nd'.1 (by rw [← e]; exact List.mem_map.mpr ⟨x, hx', rfl⟩)
      have a := (h.other x hx y (by simp) ne).mul (Cg.rfl' (a := y.2 i))
      have b := ih hL nd'.2 hx' i
      have c := a.add b
      have e : (0 : Int) * y.2 i + x.2 i = x.2 i := by simp
      rw [e] at c
      exact c
/-- a row is in the lot of the leads just where it is the sum by its own numbers -/
theorem lot_iff {p : Int} {L : List (Nat × Vc)} (h : Leads p L) (nd : (L.map (·.1)).Nodup) {u : Vc} : Lot p (rowsOf L) u ↔ Eqv p (own u L) u := by
  constructor
  · intro k
    induction k with
    | zero => exact own_none fun _ _ => Cg.rfl'
    | @add a v c _ r ih =>
      obtain ⟨x, hx, rfl⟩ := r
      intro i
      rw [own_comb]
      exact (ih i).add (Cg.rfl'.mul (own_lead h nd hx i))
    | eqv _ e ih => exact ((own_eqv e L).symm.trans ih).trans e
  · intro k
    exact .eqv (own_lot L fun x hx => ⟨x, hx, rfl⟩) k
/-- what is left of a row behind clearing -/
def left (u : Vc) (L : List (Nat × Vc)) : Vc := fun i => u i - own u L i
theorem own_at {p : Int} {L : List (Nat × Vc)} (h : Leads p L) (nd : (L.map (·.1)).Nodup) {u : Vc} {x : Nat × Vc} (hx : x ∈ L) : Cg p (own u L x.1) (u x.1) := by
  induction L with
  | nil => cases hx
  | cons y L ih =>
    have nd' := List.nodup_cons.mp (by simpa using nd : (y.1 :: L.map (·.1)).Nodup)
    have hL : Leads p L := ⟨fun z hz => h.self z (List.mem_cons_of_mem _ hz), fun z hz w hw => h.other z (List.mem_cons_of_mem _ hz) w (List.mem_cons_of_mem _ hw)⟩
    show Cg p (u y.1 * y.2 x.1 + own u L x.1) (u x.1)
    rcases List.mem_cons.mp hx with rfl | hx'
    · have far : ∀ M : List (Nat × Vc), (∀ z ∈ M, Cg p (z.2 x.1) 0) → Cg p (own u M x.1) 0 := by
        intro M hM
        induction M with
        | nil => exact Cg.rfl'
        | cons z M ihM =>
          have a := ((Cg.rfl' (a := u z.1)).mul (hM z (by simp))).add (ihM fun w hw => hM w (List.mem_cons_of_mem _ hw))
          have e : u z.1 * 0 + 0 = 0 := by simp
          rw [e] at a
          exact a
      have a := ((Cg.rfl' (a := u x.1)).mul (h.self x (by simp))).add (far L fun z hz => h.other z (List.mem_cons_of_mem _ hz) x (by simp) fun e => nd'.1 (by rw [← e]; exact List.mem_map.mpr ⟨z, hz, rfl⟩))
      have e : u x.1 * 1 + 0 = u x.1 := by simp
      rw [e] at a
      exact a
    · have ne : y.1 ≠ x.1 := fun e => nd'.1 (by rw [e]; exact List.mem_map.mpr ⟨x, hx', rfl⟩)
      have a := ((Cg.rfl' (a := u y.1)).mul (h.other y (by simp) x hx ne)).add (ih hL nd'.2 hx')
      have e : u y.1 * 0 + u x.1 = u x.1 := by simp
      rw [e] at a
      exact a
theorem left_at {p : Int} {L : List (Nat × Vc)} (h : Leads p L) (nd : (L.map (·.1)).Nodup) {u : Vc} {x : Nat × Vc} (hx : x ∈ L) : Cg p (left u L x.1) 0 := by
  have a := (Cg.rfl' (a := u x.1)).sub (own_at h nd (u := u) hx)
  have e : u x.1 - u x.1 = 0 := by omega
  rw [e] at a
  exact a
/-- a row is in the lot of the leads just where nothing is left of it -/
theorem lot_left {p : Int} {L : List (Nat × Vc)} (h : Leads p L) (nd : (L.map (·.1)).Nodup) {u : Vc} : Lot p (rowsOf L) u ↔ Eqv p (left u L) fun _ => 0 := by
  rw [lot_iff h nd]
  constructor
  · intro k i
    have a := (Cg.rfl' (a := u i)).sub (k i)
    have e : u i - u i = 0 := by omega
    rw [e] at a
    exact a
  · intro k i
    have a := (Cg.rfl' (a := u i)).sub (k i)
    have e : u i - left u L i = own u L i := by
      show u i - (u i - own u L i) = own u L i
      omega
    have e2 : u i - 0 = u i := by omega
    rw [e, e2] at a
    exact a
/-- one more lead at q -/
def more (q : Nat) (l : Vc) (L : List (Nat × Vc)) : List (Nat × Vc) := L.map fun x => (x.1, fun i => x.2 i - x.2 q * l i)
theorem more_places {q : Nat} {l : Vc} {L : List (Nat × Vc)} : (more q l L).map (·.1) = L.map (·.1) := by
  unfold more
  rw [List.map_map]
  rfl
theorem leads_more {p : Int} {L : List (Nat × Vc)} {q : Nat} {l : Vc} (h : Leads p L) (nd : (L.map (·.1)).Nodup) (h1 : Cg p (l q) 1) (h0 : ∀ x ∈ L, Cg p (l x.1) 0) (hq : ∀ x ∈ L, x.1 ≠ q) : Leads p (more q l L ++ [(q, l)]) := by
  have key : ∀ x ∈ L, ∀ y ∈ L, Cg p (x.2 y.1 - x.2 q * l y.1) (x.2 y.1) := fun x _ y hy => by
    have a := (Cg.rfl' (a := x.2 y.1)).sub ((Cg.rfl' (a := x.2 q)).mul (h0 y hy))
    have e : x.2 y.1 - x.2 q * 0 = x.2 y.1 := by simp
    rw [e] at a
    exact a
  have atq : ∀ x ∈ L, Cg p (x.2 q - x.2 q * l q) 0 := fun x _ => by
    have a := (Cg.rfl' (a := x.2 q)).sub ((Cg.rfl' (a := x.2 q)).mul h1)
    have e : x.2 q - x.2 q * 1 = 0 := by rw [Int.mul_one]; omega
    rw [e] at a
    exact a
  refine ⟨fun x hx => ?_, fun x hx y hy ne => ?_⟩
  · rcases List.mem_append.mp hx with hx | hx
    · obtain ⟨z, hz, rfl⟩ := List.mem_map.mp hx
      exact (key z hz z hz).trans (h.self z hz)
    · rw [List.mem_singleton.mp hx]
      exact h1
  · rcases List.mem_append.mp hx with hx | hx
    · obtain ⟨z, hz, rfl⟩ := List.mem_map.mp hx
      rcases List.mem_append.mp hy with hy | hy
      · obtain ⟨w, hw, rfl⟩ := List.mem_map.mp hy
        exact (key z hz w hw).trans (h.other z hz w hw ne)
      · rw [List.mem_singleton.mp hy]
        exact atq z hz
    · rw [List.mem_singleton.mp hx] at ne ⊢
      rcases List.mem_append.mp hy with hy | hy
      · obtain ⟨w, hw, rfl⟩ := List.mem_map.mp hy
        exact h0 w hw
      · rw [List.mem_singleton.mp hy] at ne
        exact absurd rfl ne
/-- the lot with a new lead is that of the old leads and the row out of which it was made -/
theorem lot_more {p c d : Int} {L : List (Nat × Vc)} {q : Nat} {f l : Vc} (hl : Eqv p l fun i => c * left f L i) (hd : Cg p (d * c) 1) {u : Vc} : Lot p (rowsOf (more q l L ++ [(q, l)])) u ↔ Lot p (fun v => rowsOf L v ∨ v = f) u := by
  have lIn : Lot p (fun v => rowsOf L v ∨ v = f) l := by
    have a : Lot p (fun v => rowsOf L v ∨ v = f) (own f L) := own_lot L fun x hx => .inl ⟨x, hx, rfl⟩
    have b : Lot p (fun v => rowsOf L v ∨ v = f) f := Lot.of (.inr rfl)
    have e := Lot.comb c Lot.zero (Lot.comb (-1) b a)
    exact .eqv e fun i => Cg.trans ⟨0, by simp only [left]; grind⟩ (hl i).symm
  have newl : Lot p (rowsOf (more q l L ++ [(q, l)])) l := Lot.of ⟨(q, l), by simp, rfl⟩
  have old : ∀ x ∈ L, Lot p (rowsOf (more q l L ++ [(q, l)])) x.2 := fun x hx => by
    have a : Lot p (rowsOf (more q l L ++ [(q, l)])) (fun i => x.2 i - x.2 q * l i) := Lot.of ⟨(x.1, fun i => x.2 i - x.2 q * l i), List.mem_append.mpr (.inl (List.mem_map.mpr ⟨x, hx, rfl⟩)), rfl⟩
    exact .eqv (Lot.comb (x.2 q) a newl) fun i => ⟨0, by grind⟩
  constructor
  · refine Lot.sub fun v hv => ?_
    obtain ⟨x, hx, rfl⟩ := hv
    rcases List.mem_append.mp hx with hx | hx
    · obtain ⟨z, hz, rfl⟩ := List.mem_map.mp hx
      exact .eqv (Lot.comb (-(z.2 q)) (Lot.of (.inl ⟨z, hz, rfl⟩)) lIn) fun i => ⟨0, by grind⟩
    · rw [List.mem_singleton.mp hx]
      exact lIn
  · refine Lot.sub fun v hv => ?_
    rcases hv with ⟨x, hx, rfl⟩ | rfl
    · exact old x hx
    · have a : Lot p (rowsOf (more q l L ++ [(q, l)])) (own v L) := Lot.sub (R := rowsOf L) (fun w ⟨x, hx, e⟩ => e ▸ old x hx) (own_lot L fun x hx => ⟨x, hx, rfl⟩)
      refine .eqv (Lot.comb d a newl) fun i => ?_
      have e1 := (Cg.rfl' (p := p) (a := own v L i)).add ((Cg.rfl' (a := d)).mul (hl i))
      have e2 := (Cg.rfl' (p := p) (a := own v L i)).add (hd.mul (Cg.rfl' (a := left v L i)))
      have e3 : own v L i + d * (c * left v L i) = own v L i + d * c * left v L i := by grind
      have e4 : own v L i + 1 * left v L i = v i := by simp only [left]; grind
      rw [e3] at e1
      rw [e4] at e2
      exact e1.trans e2
/-- clearing, one lead behind another -/
def clear (u : Vc) : List (Nat × Vc) → Vc
  | [] => u
  | x :: L => clear (fun i => u i - u x.1 * x.2 i) L
theorem clear_eqv {p : Int} : ∀ (L : List (Nat × Vc)) {u v : Vc}, Eqv p u v → Eqv p (clear u L) (clear v L)
  | [], _, _, h => h
  | x :: L, _, _, h => clear_eqv L fun i => (h i).sub ((h x.1).mul Cg.rfl')
theorem clear_left {p : Int} : ∀ {L : List (Nat × Vc)} {u : Vc}, Leads p L → (L.map (·.1)).Nodup → Eqv p (clear u L) (left u L)
  | [], u, _, _ => fun i => ⟨0, by simp [clear, left, own]⟩
  | x :: L, u, h, nd => by
    have nd' := List.nodup_cons.mp (by simpa using nd : (x.1 :: L.map (·.1)).Nodup)
    have hL : Leads p L := ⟨fun z hz => h.self z (List.mem_cons_of_mem _ hz), fun z hz w hw => h.other z (List.mem_cons_of_mem _ hz) w (List.mem_cons_of_mem _ hw)⟩
    intro i
    have ih := clear_left (u := fun i => u i - u x.1 * x.2 i) hL nd'.2 i
    have e1 : own (fun j => u j - u x.1 * x.2 j) L i = own u L i - u x.1 * own x.2 L i := by
      have z := own_comb (u := u) (v := x.2) (c := -(u x.1)) L i
      have z2 : (fun j => u j + -(u x.1) * x.2 j) = fun j => u j - u x.1 * x.2 j := by
        funext j
        grind
      rw [z2] at z
      rw [z]
      grind
    have z : Cg p (own x.2 L i) 0 := own_none (fun y hy => h.other x (by simp) y (List.mem_cons_of_mem _ hy) fun e => nd'.1 (by rw [e]; exact List.mem_map.mpr ⟨y, hy, rfl⟩)) i
    have a : Cg p (u i - u x.1 * x.2 i - (own u L i - u x.1 * own x.2 L i)) (u i - u x.1 * x.2 i - (own u L i - u x.1 * 0)) := Cg.rfl'.sub (Cg.rfl'.sub (Cg.rfl'.mul z))
    have e2 : left (fun i => u i - u x.1 * x.2 i) L i = u i - u x.1 * x.2 i - (own u L i - u x.1 * own x.2 L i) := by
      show u i - u x.1 * x.2 i - own (fun j => u j - u x.1 * x.2 j) L i = _
      rw [e1]
    have e3 : left u (x :: L) i = u i - u x.1 * x.2 i - (own u L i - u x.1 * 0) := by
      show u i - (u x.1 * x.2 i + own u L i) = _
      grind
    show Cg p (clear (fun i => u i - u x.1 * x.2 i) L i) (left u (x :: L) i)
    rw [e3]
    rw [e2] at ih
    exact ih.trans a
/-- nothing stands ahead of a lead's place -/
def Ahead (p : Int) (L : List (Nat × Vc)) : Prop := ∀ x ∈ L, ∀ i, i < x.1 → Cg p (x.2 i) 0
theorem own_zero {p : Int} {u : Vc} {i : Nat} : ∀ {L : List (Nat × Vc)}, (∀ y ∈ L, Cg p (u y.1) 0 ∨ Cg p (y.2 i) 0) → Cg p (own u L i) 0
  | [], _ => Cg.rfl'
  | y :: L, h => by
    have b := own_zero (L := L) fun z hz => h z (List.mem_cons_of_mem _ hz)
    show Cg p (u y.1 * y.2 i + own u L i) 0
    have e0 : (0 : Int) + 0 = 0 := rfl
    rw [← e0]
    refine Cg.add ?_ b
    rcases h y (by simp) with k | k
    · have a := k.mul (Cg.rfl' (a := y.2 i))
      rw [Int.zero_mul] at a
      exact a
    · have a := (Cg.rfl' (a := u y.1)).mul k
      rw [Int.mul_zero] at a
      exact a
theorem one_zero {p : Int} (h : 1 < p) : ¬ Cg p 1 0 := by
  rintro ⟨c, e⟩
  have e2 : (1 : Int) = p * c := by omega
  have d : p ∣ 1 := ⟨c, e2⟩
  have := Int.le_of_dvd (by decide) d
  omega
theorem place_in {p : Int} {L M : List (Nat × Vc)} (h1 : 1 < p) (hL : Leads p L) (aL : Ahead p L) (hM : Leads p M) (aM : Ahead p M) (ndM : (M.map (·.1)).Nodup) (sub : ∀ x ∈ L, Lot p (rowsOf M) x.2) {x : Nat × Vc} (hx : x ∈ L) : ∃ y ∈ M, y.1 = x.1 := by
  refine Classical.byContradiction fun no => ?_
  have k := (lot_iff hM ndM).mp (sub x hx) x.1
  have z : Cg p (own x.2 M x.1) 0 := own_zero fun y hy => by
    rcases Nat.lt_trichotomy y.1 x.1 with l | l | l
    · exact .inl (aL x hx y.1 l)
    · exact absurd ⟨y, hy, l⟩ no
    · exact .inr (aM y hy x.1 l)
  exact one_zero h1 (((hL.self x hx).symm.trans k.symm).trans z)
/-- plain sets of one lot have the same rows at the same places -/
theorem plain_same {p : Int} {L M : List (Nat × Vc)} (h1 : 1 < p) (hL : Leads p L) (aL : Ahead p L) (ndL : (L.map (·.1)).Nodup) (hM : Leads p M) (aM : Ahead p M) (ndM : (M.map (·.1)).Nodup) (sub : ∀ x ∈ L, Lot p (rowsOf M) x.2) (sup : ∀ y ∈ M, Lot p (rowsOf L) y.2)
    {x y : Nat × Vc} (hx : x ∈ L) (hy : y ∈ M) (e : y.1 = x.1) : Eqv p x.2 y.2 := by
  have k := (lot_iff hM ndM).mp (sub x hx)
  have k2 := own_lead hM ndM hy
  refine fun i => ((k i).symm.trans ?_).trans (k2 i)
  have d : ∀ z ∈ M, Cg p (x.2 z.1 - y.2 z.1) 0 := fun z hz => by
    by_cases e2 : z.1 = x.1
    · have a := (hL.self x hx).sub (hM.self y hy)
      rw [e2]
      rw [e] at a
      exact a
    · obtain ⟨w, hw, ew⟩ := place_in h1 hM aM hL aL ndL sup hz
      have a := (hL.other x hx w hw fun q => e2 (by rw [← ew, q])).sub (hM.other y hy z hz fun q => e2 (by rw [← q, e]))
      rw [ew] at a
      exact a
  have o := own_none (u := fun j => x.2 j - y.2 j) d i
  have e3 : own (fun j => x.2 j - y.2 j) M i = own x.2 M i - own y.2 M i := by
    have z := own_comb (u := x.2) (v := y.2) (c := -1) M i
    have z2 : (fun j => x.2 j + -1 * y.2 j) = fun j => x.2 j - y.2 j := by
      funext j
      grind
    rw [z2] at z
    rw [z]
    grind
  have o2 : Cg p (own x.2 M i - own y.2 M i) 0 := by
    rw [← e3]
    exact o
  have a := o2.add (Cg.rfl' (a := own y.2 M i))
  have e4 : own x.2 M i - own y.2 M i + own y.2 M i = own x.2 M i := by omega
  rw [e4, Int.zero_add] at a
  exact a
/-! ### lists of numbers as such rows -/
def vec (us : List Int) : Vc := fun i => us.getD i 0
def vecs (L : List (Nat × List Int)) : List (Nat × Vc) := L.map fun x => (x.1, vec x.2)
def Rg (p : Int) (us : List Int) : Prop := ∀ u ∈ us, 0 ≤ u ∧ u < p
theorem vec_some {us : List Int} {i : Nat} {u : Int} (h : us[i]? = some u) : vec us i = u := by
  show us.getD i 0 = u
  rw [List.getD_eq_getElem?_getD, h]
  rfl
theorem vec_out {us : List Int} {i : Nat} (h : us.length ≤ i) : vec us i = 0 := by
  show us.getD i 0 = 0
  rw [List.getD_eq_getElem?_getD, List.getElem?_eq_none h]
  rfl
theorem Rg.vec {p : Int} {us : List Int} (p0 : 0 < p) (h : Rg p us) (i : Nat) : 0 ≤ vec us i ∧ vec us i < p := by
  by_cases hi : i < us.length
  · rw [vec_some (List.getElem?_eq_getElem hi)]
    exact h _ (List.getElem_mem hi)
  · rw [vec_out (by omega)]
    omega
theorem cg_eq {p a b : Int} (ha : 0 ≤ a ∧ a < p) (hb : 0 ≤ b ∧ b < p) (h : Cg p a b) : a = b := by
  obtain ⟨c, rfl⟩ := h
  have e : (b + p * c) % p = b % p := Int.add_mul_emod_self_left b p c
  rw [Int.emod_eq_of_lt ha.1 ha.2, Int.emod_eq_of_lt hb.1 hb.2] at e
  exact e
theorem list_eq {p : Int} {us vs : List Int} (p0 : 0 < p) (hl : us.length = vs.length) (hu : Rg p us) (hv : Rg p vs) (e : Eqv p (vec us) (vec vs)) : us = vs := by
  apply List.ext_getElem hl
  intro i h1 h2
  have a := cg_eq (hu.vec p0 i) (hv.vec p0 i) (e i)
  rw [vec_some (List.getElem?_eq_getElem h1), vec_some (List.getElem?_eq_getElem h2)] at a
  exact a
theorem zero_iff {p : Int} {us : List Int} (p0 : 0 < p) (hu : Rg p us) : (∀ x ∈ us, x = 0) ↔ Eqv p (vec us) fun _ => 0 := by
  constructor
  · intro h i
    by_cases hi : i < us.length
    · rw [vec_some (List.getElem?_eq_getElem hi), h _ (List.getElem_mem hi)]
      exact Cg.rfl'
    · rw [vec_out (by omega)]
      exact Cg.rfl'
  · intro h x hx
    obtain ⟨i, hi, rfl⟩ := List.mem_iff_getElem.mp hx
    have a := cg_eq (hu.vec p0 i) ⟨by decide, p0⟩ (h i)
    rw [vec_some (List.getElem?_eq_getElem hi)] at a
    exact a
def lessZ (p n : Int) (us vs : List Int) : List Int := List.zipWith (fun x y => (x - n * y) % p) us vs
def lessL (p : Int) (us : List Int) (n : Int) (vs : List Int) : List Int := if n = 0 then us else lessZ p n us vs
theorem less_len {p n : Int} {us vs : List Int} (h : us.length = vs.length) : (lessL p us n vs).length = us.length := by
  unfold lessL
  split
  · rfl
  · unfold lessZ
    rw [List.length_zipWith]
    omega
theorem less_rg {p n : Int} {us vs : List Int} (p0 : 0 < p) (h : Rg p us) : Rg p (lessL p us n vs) := by
  unfold lessL
  split
  · exact h
  · intro u hu
    unfold lessZ at hu
    obtain ⟨i, hi, rfl⟩ := List.mem_iff_getElem.mp hu
    rw [List.getElem_zipWith]
    exact ⟨Int.emod_nonneg _ (by omega), Int.emod_lt_of_pos _ p0⟩
theorem vec_less {p n : Int} {us vs : List Int} (h : us.length = vs.length) : Eqv p (vec (lessL p us n vs)) fun i => vec us i - n * vec vs i := by
  intro i
  show Cg p (vec (lessL p us n vs) i) (vec us i - n * vec vs i)
  unfold lessL
  split
  · rename_i e
    rw [e]
    exact ⟨0, by simp⟩
  · by_cases hi : i < us.length
    · have h2 : i < vs.length := by omega
      rw [vec_some (us := us) (List.getElem?_eq_getElem hi), vec_some (us := vs) (List.getElem?_eq_getElem h2)]
      have e : (lessZ p n us vs)[i]? = some ((us[i] - n * vs[i]) % p) := by
        unfold lessZ
        rw [List.getElem?_zipWith, List.getElem?_eq_getElem hi, List.getElem?_eq_getElem h2]
      rw [vec_some e]
      exact Cg.mod _
    · have e : (lessZ p n us vs).length ≤ i := by
        unfold lessZ
        rw [List.length_zipWith]
        omega
      rw [vec_out e, vec_out (us := us) (by omega), vec_out (us := vs) (by omega)]
      exact ⟨0, by simp⟩
def clearL (p : Int) (us : List Int) : List (Nat × List Int) → List Int
  | [] => us
  | x :: L => clearL p (lessL p us (us.getD x.1 0) x.2) L
theorem clear_snoc {p : Int} {x : Nat × List Int} : ∀ (L : List (Nat × List Int)) (us : List Int), clearL p us (L ++ [x]) = lessL p (clearL p us L) ((clearL p us L).getD x.1 0) x.2
  | [], _ => rfl
  | y :: L, us => clear_snoc L _
theorem clear_len {p : Int} {n : Nat} : ∀ (L : List (Nat × List Int)) {us : List Int}, (∀ x ∈ L, x.2.length = n) → us.length = n → (clearL p us L).length = n
  | [], _, _, h => h
  | x :: L, us, hL, h => clear_len L (fun y hy => hL y (List.mem_cons_of_mem _ hy)) (by rw [less_len (by rw [h, hL x (by simp)])]; exact h)
theorem clear_rg {p : Int} (p0 : 0 < p) : ∀ (L : List (Nat × List Int)) {us : List Int}, Rg p us → Rg p (clearL p us L)
  | [], _, h => h
  | _ :: L, _, h => clear_rg p0 L (less_rg p0 h)
theorem vec_clear {p : Int} {n : Nat} : ∀ (L : List (Nat × List Int)) {us : List Int}, (∀ x ∈ L, x.2.length = n) → us.length = n → Eqv p (vec (clearL p us L)) (clear (vec us) (vecs L))
  | [], _, _, _ => Eqv.refl
  | x :: L, us, hL, h => by
    have e : us.length = x.2.length := by rw [h, hL x (by simp)]
    refine (vec_clear L (fun y hy => hL y (List.mem_cons_of_mem _ hy)) (by rw [less_len e]; exact h)).trans ?_
    exact clear_eqv _ (vec_less e)
/-- the rows that a list of lists of numbers spans -/
def spn (fs : List (List Int)) : Vc → Prop := fun v => ∃ f ∈ fs, vec f = v
structure PL (p : Int) (n : Nat) (fs : List (List Int)) (L : List (Nat × List Int)) : Prop where
  len : ∀ x ∈ L, x.2.length = n
  rg : ∀ x ∈ L, Rg p x.2
  plc : ∀ x ∈ L, x.1 < n
  nd : (L.map (·.1)).Nodup
  leads : Leads p (vecs L)
  ahead : Ahead p (vecs L)
  lot : ∀ u, Lot p (rowsOf (vecs L)) u ↔ Lot p (spn fs) u
theorem vecs_places {L : List (Nat × List Int)} : (vecs L).map (·.1) = L.map (·.1) := by
  unfold vecs
  rw [List.map_map]
  rfl
theorem mem_vecs {L : List (Nat × List Int)} {y : Nat × Vc} : y ∈ vecs L ↔ ∃ x ∈ L, (x.1, vec x.2) = y := List.mem_map
theorem PL.ndv {p : Int} {n : Nat} {fs : List (List Int)} {L : List (Nat × List Int)} (h : PL p n fs L) : ((vecs L).map (·.1)).Nodup := by
  rw [vecs_places]
  exact h.nd
theorem PL.nil {p : Int} {n : Nat} : PL p n [] [] := by
  refine ⟨fun x hx => by simp at hx, fun x hx => by simp at hx, fun x hx => by simp at hx, by simp, ⟨fun x hx => by simp [vecs] at hx, fun x hx => by simp [vecs] at hx⟩, fun x hx => by simp [vecs] at hx, fun u => ?_⟩
  have e : (rowsOf (vecs [])) = spn [] := by
    funext v
    simp [rowsOf, vecs, spn]
  rw [e]
theorem Lot.iff {p : Int} {R S : Vc → Prop} (h1 : ∀ v, R v → Lot p S v) (h2 : ∀ v, S v → Lot p R v) (u : Vc) : Lot p R u ↔ Lot p S u := ⟨Lot.sub h1, Lot.sub h2⟩
theorem PL.zero {p : Int} {n : Nat} {fs : List (List Int)} {L : List (Nat × List Int)} (p0 : 0 < p) (h : PL p n fs L) {f : List Int} (hl : f.length = n) (hr : Rg p f) : (∀ x ∈ clearL p f L, x = 0) ↔ Lot p (spn fs) (vec f) := by
  rw [zero_iff p0 (clear_rg p0 L hr), ← h.lot, lot_left h.leads h.ndv]
  have a := vec_clear (p := p) L h.len hl
  have b := clear_left (u := vec f) h.leads h.ndv
  exact ⟨fun k => (b.symm.trans a.symm).trans k, fun k => (a.trans b).trans k⟩
theorem spn_snoc {fs : List (List Int)} {f : List Int} {v : Vc} : spn (fs ++ [f]) v ↔ spn fs v ∨ v = vec f := by
  constructor
  · rintro ⟨g, hg, rfl⟩
    rcases List.mem_append.mp hg with hg | hg
    · exact .inl ⟨g, hg, rfl⟩
    · rw [List.mem_singleton.mp hg]
      exact .inr rfl
  · rintro (⟨g, hg, rfl⟩ | rfl)
    · exact ⟨g, by simp [hg], rfl⟩
    · exact ⟨f, by simp, rfl⟩
theorem PL.skip {p : Int} {n : Nat} {fs : List (List Int)} {L : List (Nat × List Int)} (p0 : 0 < p) (h : PL p n fs L) {f : List Int} (hl : f.length = n) (hr : Rg p f) (z : ∀ x ∈ clearL p f L, x = 0) : PL p n (fs ++ [f]) L := by
  refine ⟨h.len, h.rg, h.plc, h.nd, h.leads, h.ahead, fun u => (h.lot u).trans ?_⟩
  have k := (h.zero p0 hl hr).mp z
  refine Lot.iff (fun v hv => Lot.of (spn_snoc.mpr (.inl hv))) (fun v hv => ?_) u
  rcases spn_snoc.mp hv with hv | rfl
  · exact Lot.of hv
  · exact k
def moreL (p : Int) (q : Nat) (l : List Int) (L : List (Nat × List Int)) : List (Nat × List Int) := L.map fun x => (x.1, lessL p x.2 (x.2.getD q 0) l)
def scaled (p c : Int) (us : List Int) : List Int := us.map fun x => c * x % p
theorem vec_scaled {p c : Int} {us : List Int} : Eqv p (vec (scaled p c us)) fun i => c * vec us i := by
  intro i
  show Cg p (vec (scaled p c us) i) (c * vec us i)
  by_cases hi : i < us.length
  · have e : (scaled p c us)[i]? = some (c * us[i] % p) := by
      unfold scaled
      rw [List.getElem?_map, List.getElem?_eq_getElem hi]
      rfl
    rw [vec_some e, vec_some (List.getElem?_eq_getElem hi)]
    exact Cg.mod _
  · rw [vec_out (us := us) (by omega), vec_out (by unfold scaled; rw [List.length_map]; omega)]
    exact ⟨0, by simp⟩
theorem scaled_rg {p c : Int} {us : List Int} (p0 : 0 < p) : Rg p (scaled p c us) := by
  intro u hu
  obtain ⟨x, _, rfl⟩ := List.mem_map.mp hu
  exact ⟨Int.emod_nonneg _ (by omega), Int.emod_lt_of_pos _ p0⟩
/-- leads that are alike round p -/
theorem Leads.eqv {p : Int} {L M : List (Nat × Vc)} (h : Leads p L) (e : ∀ y ∈ M, ∃ x ∈ L, x.1 = y.1 ∧ Eqv p x.2 y.2) : Leads p M := by
  refine ⟨fun y hy => ?_, fun y hy z hz ne => ?_⟩
  · obtain ⟨x, hx, e1, e2⟩ := e y hy
    have a := h.self x hx
    rw [← e1]
    exact (e2 x.1).symm.trans a
  · obtain ⟨x, hx, e1, e2⟩ := e y hy
    obtain ⟨w, hw, e3, _⟩ := e z hz
    rw [← e1, ← e3] at ne
    have a := h.other x hx w hw ne
    rw [← e3]
    exact (e2 w.1).symm.trans a
theorem rows_eqv {p : Int} {L M : List (Nat × Vc)} (e : ∀ y ∈ M, ∃ x ∈ L, x.1 = y.1 ∧ Eqv p x.2 y.2) {v : Vc} (hv : rowsOf M v) : Lot p (rowsOf L) v := by
  obtain ⟨y, hy, rfl⟩ := hv
  obtain ⟨x, hx, _, e2⟩ := e y hy
  exact .eqv (Lot.of ⟨x, hx, rfl⟩) e2
theorem PL.step {p : Int} {n : Nat} {fs : List (List Int)} {L : List (Nat × List Int)} (p1 : 1 < p) (h : PL p n fs L) {f : List Int} (hl : f.length = n) (hr : Rg p f) {q : Nat} {u c : Int} (hu : (clearL p f L)[q]? = some u) (u0 : u ≠ 0) (ah : ∀ j, j < q → (clearL p f L)[j]? = some 0) (hc : c * u % p = 1) :
    PL p n (fs ++ [f]) (moreL p q (scaled p c (clearL p f L)) L ++ [(q, scaled p c (clearL p f L))]) := by
  have p0 : 0 < p := by omega
  have cl := clear_len (p := p) L h.len hl
  have cr := clear_rg p0 L hr
  have hq : q < n := by
    have := (List.getElem?_eq_some_iff.mp hu).1
    omega
  have sl : (scaled p c (clearL p f L)).length = n := by
    unfold scaled
    rw [List.length_map]
    exact cl
  have el : Eqv p (vec (clearL p f L)) (left (vec f) (vecs L)) := (vec_clear L h.len hl).trans (clear_left h.leads h.ndv)
  have lz : Eqv p (vec (scaled p c (clearL p f L))) fun i => c * left (vec f) (vecs L) i := fun i => (vec_scaled i).trans (Cg.rfl'.mul (el i))
  have ur : 0 ≤ u ∧ u < p := cr u (List.mem_of_getElem? hu)
  have vu : vec (clearL p f L) q = u := vec_some hu
  have h1 : Cg p (vec (scaled p c (clearL p f L)) q) 1 := by
    have a : Cg p (vec (scaled p c (clearL p f L)) q) (c * vec (clearL p f L) q) := vec_scaled q
    rw [vu] at a
    refine a.trans ?_
    have b := Cg.mod (p := p) (c * u)
    rw [hc] at b
    exact b.symm
  have h0 : ∀ x ∈ vecs L, Cg p (vec (scaled p c (clearL p f L)) x.1) 0 := fun x hx => by
    have a := (lz x.1).trans (Cg.rfl'.mul (left_at h.leads h.ndv hx))
    rw [Int.mul_zero] at a
    exact a
  have hne : ∀ x ∈ vecs L, x.1 ≠ q := fun x hx e => by
    have a := h0 x hx
    rw [e] at a
    exact one_zero p1 (h1.symm.trans a)
  have ld := leads_more h.leads h.ndv h1 h0 hne
  have al : ∀ y ∈ vecs (moreL p q (scaled p c (clearL p f L)) L ++ [(q, scaled p c (clearL p f L))]), ∃ x ∈ more q (vec (scaled p c (clearL p f L))) (vecs L) ++ [(q, vec (scaled p c (clearL p f L)))], x.1 = y.1 ∧ Eqv p x.2 y.2 := by
    intro y hy
    obtain ⟨z, hz, rfl⟩ := mem_vecs.mp hy
    rcases List.mem_append.mp hz with hz | hz
    · obtain ⟨x, hx, rfl⟩ := List.mem_map.mp hz
      refine ⟨(x.1, fun i => vec x.2 i - vec x.2 q * vec (scaled p c (clearL p f L)) i), List.mem_append.mpr (.inl (List.mem_map.mpr ⟨(x.1, vec x.2), mem_vecs.mpr ⟨x, hx, rfl⟩, rfl⟩)), rfl, ?_⟩
      exact (vec_less (by rw [sl, h.len x hx])).symm
    · rw [List.mem_singleton.mp hz]
      exact ⟨_, List.mem_append.mpr (.inr (List.mem_singleton.mpr rfl)), rfl, Eqv.refl⟩
  have al2 : ∀ x ∈ more q (vec (scaled p c (clearL p f L))) (vecs L) ++ [(q, vec (scaled p c (clearL p f L)))], ∃ y ∈ vecs (moreL p q (scaled p c (clearL p f L)) L ++ [(q, scaled p c (clearL p f L))]), y.1 = x.1 ∧ Eqv p y.2 x.2 := by
    intro x hx
    rcases List.mem_append.mp hx with hx | hx
    · obtain ⟨z, hz, rfl⟩ := List.mem_map.mp hx
      obtain ⟨y, hy, rfl⟩ := mem_vecs.mp hz
      refine ⟨_, mem_vecs.mpr ⟨(y.1, lessL p y.2 (y.2.getD q 0) (scaled p c (clearL p f L))), List.mem_append.mpr (.inl (List.mem_map.mpr ⟨y, hy, rfl⟩)), rfl⟩, rfl, ?_⟩
      exact vec_less (by rw [sl, h.len y hy])
    · rw [List.mem_singleton.mp hx]
      exact ⟨_, mem_vecs.mpr ⟨_, List.mem_append.mpr (.inr (List.mem_singleton.mpr rfl)), rfl⟩, rfl, Eqv.refl⟩
  refine ⟨fun x hx => ?_, fun x hx => ?_, fun x hx => ?_, ?_, ld.eqv al, ?_, fun v => ?_⟩
  · rcases List.mem_append.mp hx with hx | hx
    · obtain ⟨y, hy, rfl⟩ := List.mem_map.mp hx
      show (lessL p y.2 (y.2.getD q 0) (scaled p c (clearL p f L))).length = n
      rw [less_len (by rw [sl, h.len y hy])]
      exact h.len y hy
    · rw [List.mem_singleton.mp hx]
      exact sl
  · rcases List.mem_append.mp hx with hx | hx
    · obtain ⟨y, hy, rfl⟩ := List.mem_map.mp hx
      exact less_rg p0 (h.rg y hy)
    · rw [List.mem_singleton.mp hx]
      exact scaled_rg p0
  · rcases List.mem_append.mp hx with hx | hx
    · obtain ⟨y, hy, rfl⟩ := List.mem_map.mp hx
      exact h.plc y hy
    · rw [List.mem_singleton.mp hx]
      exact hq
  · rw [List.map_append]
    have e : (moreL p q (scaled p c (clearL p f L)) L).map (·.1) = L.map (·.1) := by
      unfold moreL
      rw [List.map_map]
      rfl
    rw [e]
    refine List.nodup_append.mpr ⟨h.nd, by simp, fun a ha b hb => ?_⟩
    obtain ⟨x, hx, rfl⟩ := List.mem_map.mp ha
    have hb' : b = q := by simpa using hb
    rw [hb']
    exact hne (x.1, vec x.2) (mem_vecs.mpr ⟨x, hx, rfl⟩)
  · intro y hy i hi
    obtain ⟨x, hx, e1, e2⟩ := al y hy
    refine (e2 i).symm.trans ?_
    rw [← e1] at hi
    have la : ∀ j, j < q → Cg p (vec (scaled p c (clearL p f L)) j) 0 := fun j hj => by
      have a : Cg p (vec (scaled p c (clearL p f L)) j) (c * vec (clearL p f L) j) := vec_scaled j
      rw [vec_some (ah j hj), Int.mul_zero] at a
      exact a
    rcases List.mem_append.mp hx with hx | hx
    · obtain ⟨z, hz, rfl⟩ := List.mem_map.mp hx
      show Cg p (z.2 i - z.2 q * vec (scaled p c (clearL p f L)) i) 0
      have hi : i < z.1 := hi
      have a := h.ahead z hz i hi
      have b : Cg p (z.2 q * vec (scaled p c (clearL p f L)) i) 0 := by
        by_cases hh : q < z.1
        · have b := (h.ahead z hz q hh).mul (Cg.rfl' (a := vec (scaled p c (clearL p f L)) i))
          rw [Int.zero_mul] at b
          exact b
        · have b := (Cg.rfl' (a := z.2 q)).mul (la i (by omega))
          rw [Int.mul_zero] at b
          exact b
      exact a.sub b
    · rw [List.mem_singleton.mp hx] at hi ⊢
      exact la i hi
  · have k := lot_more (q := q) (f := vec f) (L := vecs L) (c := c) (d := u) lz (by
      have b := Cg.mod (p := p) (c * u)
      rw [hc] at b
      rw [Int.mul_comm]
      exact b.symm) (u := v)
    have k1 : Lot p (rowsOf (vecs (moreL p q (scaled p c (clearL p f L)) L ++ [(q, scaled p c (clearL p f L))]))) v ↔ Lot p (rowsOf (more q (vec (scaled p c (clearL p f L))) (vecs L) ++ [(q, vec (scaled p c (clearL p f L)))])) v := Lot.iff (fun w hw => rows_eqv al hw) (fun w hw => rows_eqv al2 hw) v
    refine (k1.trans k).trans (Lot.iff (fun w hw => ?_) (fun w hw => ?_) v)
    · rcases hw with hw | rfl
      · exact Lot.sub (fun x hx => Lot.of (spn_snoc.mpr (.inl hx))) ((h.lot w).mp (Lot.of hw))
      · exact Lot.of (spn_snoc.mpr (.inr rfl))
    · rcases spn_snoc.mp hw with hw | rfl
      · exact Lot.sub (fun x hx => Lot.of (.inl hx)) ((h.lot w).mpr (Lot.of hw))
      · exact Lot.of (.inr rfl)
theorem PL.perm {p : Int} {n : Nat} {fs : List (List Int)} {L M : List (Nat × List Int)} (h : PL p n fs L) (e : L.Perm M) : PL p n fs M := by
  have ev : (vecs L).Perm (vecs M) := e.map _
  refine ⟨fun x hx => h.len x (e.mem_iff.mpr hx), fun x hx => h.rg x (e.mem_iff.mpr hx), fun x hx => h.plc x (e.mem_iff.mpr hx), (e.map (·.1)).nodup_iff.mp h.nd, ⟨fun x hx => h.leads.self x (ev.mem_iff.mpr hx), fun x hx y hy => h.leads.other x (ev.mem_iff.mpr hx) y (ev.mem_iff.mpr hy)⟩, fun x hx => h.ahead x (ev.mem_iff.mpr hx), fun u => ?_⟩
  rw [← h.lot]
  have e2 : rowsOf (vecs M) = rowsOf (vecs L) := by
    funext v
    apply propext
    exact ⟨fun ⟨x, hx, e⟩ => ⟨x, ev.mem_iff.mpr hx, e⟩, fun ⟨x, hx, e⟩ => ⟨x, ev.mem_iff.mp hx, e⟩⟩
  rw [e2]
/-- rising places -/
def Up (L : List (Nat × List Int)) : Prop := (L.map (·.1)).Pairwise (· < ·)
theorem up_ext : ∀ {xs ys : List Nat}, xs.Pairwise (· < ·) → ys.Pairwise (· < ·) → (∀ a, a ∈ xs ↔ a ∈ ys) → xs = ys
  | [], [], _, _, _ => rfl
  | [], y :: ys, _, _, h => by have := (h y).mpr (by simp); simp at this
  | x :: xs, [], _, _, h => by have := (h x).mp (by simp); simp at this
  | x :: xs, y :: ys, hx, hy, h => by
    have hx' := List.pairwise_cons.mp hx
    have hy' := List.pairwise_cons.mp hy
    have e : x = y := by
      rcases List.mem_cons.mp ((h x).mp (by simp)) with e | e
      · exact e
      · rcases List.mem_cons.mp ((h y).mpr (by simp)) with e2 | e2
        · exact e2.symm
        · have := hx'.1 y e2
          have := hy'.1 x e
          omega
    subst e
    rw [up_ext hx'.2 hy'.2 fun a => ?_]
    constructor
    · intro ha
      rcases List.mem_cons.mp ((h a).mp (List.mem_cons_of_mem _ ha)) with e | e
      · have := hx'.1 a ha
        omega
      · exact e
    · intro ha
      rcases List.mem_cons.mp ((h a).mpr (List.mem_cons_of_mem _ ha)) with e | e
      · have := hy'.1 a ha
        omega
      · exact e
/-- plain sets of one lot are one -/
theorem PL.one {p : Int} {n : Nat} {fs gs : List (List Int)} {L M : List (Nat × List Int)} (p1 : 1 < p) (hL : PL p n fs L) (hM : PL p n gs M) (uL : Up L) (uM : Up M) (e : ∀ u, Lot p (spn fs) u ↔ Lot p (spn gs) u) : L = M := by
  have p0 : 0 < p := by omega
  have sub : ∀ x ∈ vecs L, Lot p (rowsOf (vecs M)) x.2 := fun x hx => (hM.lot _).mpr ((e _).mp ((hL.lot _).mp (Lot.of ⟨x, hx, rfl⟩)))
  have sup : ∀ x ∈ vecs M, Lot p (rowsOf (vecs L)) x.2 := fun x hx => (hL.lot _).mpr ((e _).mpr ((hM.lot _).mp (Lot.of ⟨x, hx, rfl⟩)))
  have pl : L.map (·.1) = M.map (·.1) := by
    apply up_ext uL uM
    intro a
    rw [← vecs_places, ← vecs_places (L := M)]
    constructor
    · intro ha
      obtain ⟨x, hx, rfl⟩ := List.mem_map.mp ha
      obtain ⟨y, hy, ey⟩ := place_in p1 hL.leads hL.ahead hM.leads hM.ahead hM.ndv sub hx
      exact List.mem_map.mpr ⟨y, hy, ey⟩
    · intro ha
      obtain ⟨x, hx, rfl⟩ := List.mem_map.mp ha
      obtain ⟨y, hy, ey⟩ := place_in p1 hM.leads hM.ahead hL.leads hL.ahead hL.ndv sup hx
      exact List.mem_map.mpr ⟨y, hy, ey⟩
  have ll : L.length = M.length := by
    have := congrArg List.length pl
    simpa using this
  apply List.ext_getElem ll
  intro i h1 h2
  have ei : (L[i]).1 = (M[i]).1 := by
    have a : (L.map (·.1))[i]? = (M.map (·.1))[i]? := by rw [pl]
    rw [List.getElem?_map, List.getElem?_map, List.getElem?_eq_getElem h1, List.getElem?_eq_getElem h2] at a
    exact Option.some.inj a
  have m1 := List.getElem_mem h1
  have m2 := List.getElem_mem h2
  have k := plain_same p1 hL.leads hL.ahead hL.ndv hM.leads hM.ahead hM.ndv sub sup (mem_vecs.mpr ⟨_, m1, rfl⟩) (mem_vecs.mpr ⟨_, m2, rfl⟩) ei.symm
  have e2 : (L[i]).2 = (M[i]).2 := list_eq p0 (by rw [hL.len _ m1, hM.len _ m2]) (hL.rg _ m1) (hM.rg _ m2) k
  exact Prod.ext ei e2
/-! ### rows of pairs -/
def flatR (r : List (Int × Int)) : List Int := r.flatMap fun u => [u.1, u.2]
theorem flat_cons (u : Int × Int) (r : List (Int × Int)) : flatR (u :: r) = u.1 :: u.2 :: flatR r := rfl
theorem flat_len : ∀ r : List (Int × Int), (flatR r).length = 2 * r.length
  | [] => rfl
  | u :: r => by
    rw [flat_cons, List.length_cons, List.length_cons, flat_len r, List.length_cons]
    omega
theorem flat_snoc (r : List (Int × Int)) (u : Int × Int) : flatR (r ++ [u]) = flatR r ++ [u.1, u.2] := by
  unfold flatR
  rw [List.flatMap_append]
  rfl
theorem flat_inj : ∀ {r s : List (Int × Int)}, flatR r = flatR s → r = s
  | [], [], _ => rfl
  | [], _ :: _, h => by simp [flatR] at h
  | _ :: _, [], h => by simp [flatR] at h
  | u :: r, v :: s, h => by
    rw [flat_cons, flat_cons] at h
    obtain ⟨h1, h⟩ := List.cons.inj h
    obtain ⟨h2, h⟩ := List.cons.inj h
    rw [flat_inj h, Prod.ext h1 h2]
theorem vec_zero {a : Int} {us : List Int} : vec (a :: us) 0 = a := rfl
theorem vec_succ {a : Int} {us : List Int} {i : Nat} : vec (a :: us) (i + 1) = vec us i := by
  show (a :: us).getD (i + 1) 0 = us.getD i 0
  rw [List.getD_eq_getElem?_getD, List.getD_eq_getElem?_getD]
  rfl
def addP (p : Int) (r s : List (Int × Int)) : List (Int × Int) := List.zipWith (fun u v => ((u.1 + v.1) % p, (u.2 + v.2) % p)) r s
def timP (p n : Int) (r : List (Int × Int)) : List (Int × Int) := r.map fun u => (n * u.1 % p, n * u.2 % p)
theorem vec_addP {p : Int} : ∀ {r s : List (Int × Int)}, r.length = s.length → Eqv p (vec (flatR (addP p r s))) fun i => vec (flatR r) i + vec (flatR s) i
  | [], [], _ => fun i => ⟨0, by simp [addP, flatR, vec]⟩
  | [], _ :: _, h => by simp at h
  | _ :: _, [], h => by simp at h
  | u :: r, v :: s, h => fun i => by
    have e : addP p (u :: r) (v :: s) = ((u.1 + v.1) % p, (u.2 + v.2) % p) :: addP p r s := rfl
    rw [e, flat_cons]
    show Cg p (vec ((u.1 + v.1) % p :: (u.2 + v.2) % p :: flatR (addP p r s)) i) (vec (flatR (u :: r)) i + vec (flatR (v :: s)) i)
    rw [flat_cons, flat_cons]
    match i with
    | 0 => exact Cg.mod _
    | 1 => exact Cg.mod _
    | i + 2 =>
      rw [vec_succ, vec_succ, vec_succ, vec_succ, vec_succ, vec_succ]
      exact vec_addP (by simpa using h) i
theorem vec_timP {p n : Int} : ∀ {r : List (Int × Int)}, Eqv p (vec (flatR (timP p n r))) fun i => n * vec (flatR r) i
  | [] => fun i => ⟨0, by simp [timP, flatR, vec]⟩
  | u :: r => fun i => by
    have e : timP p n (u :: r) = (n * u.1 % p, n * u.2 % p) :: timP p n r := rfl
    rw [e, flat_cons]
    show Cg p (vec (n * u.1 % p :: n * u.2 % p :: flatR (timP p n r)) i) (n * vec (flatR (u :: r)) i)
    rw [flat_cons]
    match i with
    | 0 => exact Cg.mod _
    | 1 => exact Cg.mod _
    | i + 2 =>
      rw [vec_succ, vec_succ, vec_succ, vec_succ]
      exact vec_timP i
theorem vec_noP {i : Nat} : ∀ n : Nat, vec (flatR (List.replicate n ((0 : Int), (0 : Int)))) i = 0
  | 0 => rfl
  | n + 1 => by
    rw [List.replicate_succ, flat_cons]
    match i with
    | 0 => rfl
    | 1 => rfl
    | i + 2 =>
      rw [vec_succ, vec_succ]
      exact vec_noP n
theorem add_lenP {p : Int} {r s : List (Int × Int)} (h : r.length = s.length) : (addP p r s).length = r.length := by
  unfold addP
  rw [List.length_zipWith]
  omega
theorem tim_lenP {p n : Int} {r : List (Int × Int)} : (timP p n r).length = r.length := by
  unfold timP
  rw [List.length_map]
/-- sums of multiples of rows -/
def sumP (p : Int) (acc : List (Int × Int)) : List (Int × List (Int × Int)) → List (Int × Int)
  | [] => acc
  | x :: l => sumP p (addP p acc (timP p x.1 x.2)) l
theorem sum_snoc {p : Int} {x : Int × List (Int × Int)} : ∀ (l : List (Int × List (Int × Int))) (acc : List (Int × Int)), sumP p acc (l ++ [x]) = addP p (sumP p acc l) (timP p x.1 x.2)
  | [], _ => rfl
  | _ :: l, _ => sum_snoc l _
theorem sum_lenP {p : Int} {n : Nat} : ∀ (l : List (Int × List (Int × Int))) {acc : List (Int × Int)}, (∀ x ∈ l, x.2.length = n) → acc.length = n → (sumP p acc l).length = n
  | [], _, _, h => h
  | x :: l, acc, hl, h => sum_lenP l (fun y hy => hl y (List.mem_cons_of_mem _ hy)) (by rw [add_lenP (by rw [tim_lenP, h, hl x (by simp)])]; exact h)
def combV : List (Int × Vc) → Vc
  | [] => fun _ => 0
  | x :: l => fun i => x.1 * x.2 i + combV l i
def pairV (l : List (Int × List (Int × Int))) : List (Int × Vc) := l.map fun x => (x.1, vec (flatR x.2))
theorem vec_sumP {p : Int} {n : Nat} : ∀ (l : List (Int × List (Int × Int))) {acc : List (Int × Int)}, (∀ x ∈ l, x.2.length = n) → acc.length = n → Eqv p (vec (flatR (sumP p acc l))) fun i => vec (flatR acc) i + combV (pairV l) i
  | [], _, _, _ => fun i => ⟨0, by simp [sumP, pairV, combV]⟩
  | x :: l, acc, hl, h => fun i => by
    have e : acc.length = (timP p x.1 x.2).length := by rw [tim_lenP, h, hl x (by simp)]
    have a := vec_sumP (p := p) l (acc := addP p acc (timP p x.1 x.2)) (fun y hy => hl y (List.mem_cons_of_mem _ hy)) (by rw [add_lenP e]; exact h) i
    refine a.trans ?_
    have b := (vec_addP (p := p) e i).trans (Cg.rfl'.add (vec_timP i))
    have c := Cg.add b (Cg.rfl' (a := combV (pairV l) i))
    have d : vec (flatR acc) i + x.1 * vec (flatR x.2) i + combV (pairV l) i = vec (flatR acc) i + combV (pairV (x :: l)) i := by
      show _ = vec (flatR acc) i + (x.1 * vec (flatR x.2) i + combV (pairV l) i)
      omega
    rw [d] at c
    exact c
theorem comb_lot {p : Int} {R : Vc → Prop} : ∀ {l : List (Int × Vc)}, (∀ x ∈ l, R x.2) → Lot p R (combV l)
  | [], _ => .zero
  | x :: l, h => .eqv (Lot.comb x.1 (comb_lot (l := l) fun y hy => h y (List.mem_cons_of_mem _ hy)) (Lot.of (h x (by simp)))) fun i => ⟨0, by simp only [combV]; grind⟩
/-- the sum of rows is in their lot -/
theorem sum_lot {p : Int} {n : Nat} {l : List (Int × List (Int × Int))} {rs : List (List (Int × Int))} (hl : ∀ x ∈ l, x.2.length = n) (hm : ∀ x ∈ l, x.2 ∈ rs) : Lot p (spn (rs.map flatR)) (vec (flatR (sumP p (List.replicate n ((0 : Int), (0 : Int))) l))) := by
  have a : Lot p (spn (rs.map flatR)) (combV (pairV l)) := comb_lot fun y hy => by
    obtain ⟨x, hx, rfl⟩ := List.mem_map.mp hy
    exact ⟨flatR x.2, List.mem_map.mpr ⟨x.2, hm x hx, rfl⟩, rfl⟩
  refine .eqv a fun i => Cg.symm ?_
  have b := vec_sumP (p := p) l (acc := List.replicate n ((0 : Int), (0 : Int))) hl (by simp) i
  have e : vec (flatR (List.replicate n ((0 : Int), (0 : Int)))) i + combV (pairV l) i = combV (pairV l) i := by
    rw [vec_noP]
    omega
  dsimp only at b
  rw [e] at b
  exact b
theorem own_comb_eq {u : Vc} : ∀ {L : List (Nat × List Int)} {i : Nat}, own u (vecs L) i = combV (L.map fun x => (u x.1, vec x.2)) i
  | [], _ => rfl
  | x :: L, i => by
    show u x.1 * vec x.2 i + own u (vecs L) i = u x.1 * vec x.2 i + combV (L.map fun x => (u x.1, vec x.2)) i
    rw [own_comb_eq (L := L)]
/-- a row is the sum by its own numbers at the places of a plain set just where it is in the lot -/
theorem is_sum_iff {p : Int} {n : Nat} {rs : List (List (Int × Int))} {qs : List Nat} {r : List (Int × Int)} (p0 : 0 < p) (hl : ∀ x ∈ rs, x.length = n) (hq : qs.length = rs.length) (pl : PL p (2 * n) (rs.map flatR) (qs.zip (rs.map flatR))) (hr : r.length = n) (rg : Rg p (flatR r)) (srg : Rg p (flatR (sumP p (List.replicate n ((0 : Int), (0 : Int))) ((qs.map (vec (flatR r))).zip rs)))) :
    sumP p (List.replicate n ((0 : Int), (0 : Int))) ((qs.map (vec (flatR r))).zip rs) = r ↔ Lot p (spn (rs.map flatR)) (vec (flatR r)) := by
  have mem : ∀ x ∈ (qs.map (vec (flatR r))).zip rs, x.2.length = n := fun x hx => hl _ (List.of_mem_zip hx).2
  have key : Eqv p (vec (flatR (sumP p (List.replicate n ((0 : Int), (0 : Int))) ((qs.map (vec (flatR r))).zip rs)))) (own (vec (flatR r)) (vecs (qs.zip (rs.map flatR)))) := fun i => by
    have b := vec_sumP (p := p) ((qs.map (vec (flatR r))).zip rs) (acc := List.replicate n ((0 : Int), (0 : Int))) mem (by simp) i
    have e : vec (flatR (List.replicate n ((0 : Int), (0 : Int)))) i + combV (pairV ((qs.map (vec (flatR r))).zip rs)) i = own (vec (flatR r)) (vecs (qs.zip (rs.map flatR))) i := by
      rw [vec_noP, own_comb_eq]
      have e2 : pairV ((qs.map (vec (flatR r))).zip rs) = (qs.zip (rs.map flatR)).map fun x => (vec (flatR r) x.1, vec x.2) := by
        unfold pairV
        apply List.ext_getElem?
        intro j
        simp only [List.getElem?_map, List.getElem?_zip_eq_some, List.zip, List.getElem?_zipWith]
        cases qs[j]? with
        | none => rfl
        | some a =>
          cases rs[j]? with
          | none => rfl
          | some b => rfl
      rw [e2]
      omega
    dsimp only at b
    rw [e] at b
    exact b
  rw [← pl.lot, lot_iff pl.leads pl.ndv]
  constructor
  · intro h
    rw [h] at key
    exact key.symm
  · intro h
    apply flat_inj
    exact list_eq p0 (by rw [flat_len, flat_len, sum_lenP _ mem (by simp), hr]) srg rg (key.trans h)
/-! ### rows stirred -/
theorem lot_set_add {p c : Int} {fs : List (List Int)} {i j : Nat} {f g h : List Int} (ne : i ≠ j) (hi : fs[i]? = some f) (hj : fs[j]? = some g) (e : Eqv p (vec h) fun k => vec f k + c * vec g k) (u : Vc) : Lot p (spn (fs.set i h)) u ↔ Lot p (spn fs) u := by
  have il : i < fs.length := (List.getElem?_eq_some_iff.mp hi).1
  have gin : g ∈ fs.set i h := List.mem_of_getElem? (i := j) (by rw [List.getElem?_set_ne ne]; exact hj)
  have hin : h ∈ fs.set i h := List.mem_set il h
  refine Lot.iff (fun v hv => ?_) (fun v hv => ?_) u
  · obtain ⟨k, hk, rfl⟩ := hv
    rcases List.mem_or_eq_of_mem_set hk with m | m
    · exact Lot.of ⟨k, m, rfl⟩
    · rw [m]
      exact .eqv (Lot.comb c (Lot.of ⟨f, List.mem_of_getElem? hi, rfl⟩) (Lot.of ⟨g, List.mem_of_getElem? hj, rfl⟩)) e.symm
  · obtain ⟨k, hk, rfl⟩ := hv
    obtain ⟨m, hm, rfl⟩ := List.mem_iff_getElem.mp hk
    by_cases e2 : m = i
    · subst e2
      have z : fs[m] = f := by
        rw [List.getElem?_eq_getElem hm] at hi
        exact Option.some.inj hi
      rw [z]
      refine .eqv (Lot.comb (-c) (Lot.of ⟨h, hin, rfl⟩) (Lot.of ⟨g, gin, rfl⟩)) fun k => ?_
      have a := (e k).add (Cg.rfl' (a := -c * vec g k))
      have b : vec f k + c * vec g k + -c * vec g k = vec f k := by grind
      rw [b] at a
      exact a
    · exact Lot.of ⟨fs[m], List.mem_of_getElem? (i := m) (by rw [List.getElem?_set_ne (fun z => e2 z.symm), List.getElem?_eq_getElem hm]), rfl⟩
theorem lot_set_mul {p c d : Int} {fs : List (List Int)} {i : Nat} {f h : List Int} (hi : fs[i]? = some f) (e : Eqv p (vec h) fun k => c * vec f k) (hd : Cg p (d * c) 1) (u : Vc) : Lot p (spn (fs.set i h)) u ↔ Lot p (spn fs) u := by
  have il : i < fs.length := (List.getElem?_eq_some_iff.mp hi).1
  have hin : h ∈ fs.set i h := List.mem_set il h
  refine Lot.iff (fun v hv => ?_) (fun v hv => ?_) u
  · obtain ⟨k, hk, rfl⟩ := hv
    rcases List.mem_or_eq_of_mem_set hk with m | m
    · exact Lot.of ⟨k, m, rfl⟩
    · rw [m]
      refine .eqv (Lot.comb c .zero (Lot.of ⟨f, List.mem_of_getElem? hi, rfl⟩)) fun k => ?_
      have z : (0 : Int) + c * vec f k = c * vec f k := by omega
      show Cg p (0 + c * vec f k) _
      rw [z]
      exact (e k).symm
  · obtain ⟨k, hk, rfl⟩ := hv
    obtain ⟨m, hm, rfl⟩ := List.mem_iff_getElem.mp hk
    by_cases e2 : m = i
    · subst e2
      have z : fs[m] = f := by
        rw [List.getElem?_eq_getElem hm] at hi
        exact Option.some.inj hi
      rw [z]
      refine .eqv (Lot.comb d .zero (Lot.of ⟨h, hin, rfl⟩)) fun k => ?_
      have a := (Cg.rfl' (p := p) (a := d)).mul (e k)
      have b := hd.mul (Cg.rfl' (a := vec f k))
      have z1 : d * (c * vec f k) = d * c * vec f k := by grind
      have z2 : (1 : Int) * vec f k = vec f k := by omega
      have z3 : (0 : Int) + d * vec h k = d * vec h k := by omega
      show Cg p (0 + d * vec h k) _
      rw [z3]
      have a' : Cg p (d * vec h k) (d * (c * vec f k)) := a
      rw [z1] at a'
      rw [z2] at b
      exact a'.trans b
    · exact Lot.of ⟨fs[m], List.mem_of_getElem? (i := m) (by rw [List.getElem?_set_ne (fun z => e2 z.symm), List.getElem?_eq_getElem hm]), rfl⟩
/-- a row of the lot put in anywhere -/
theorem lot_more_rows {p : Int} {fs gs : List (List Int)} {f : List Int} (hf : Lot p (spn fs) (vec f)) (hg : ∀ g, g ∈ gs ↔ g ∈ fs ∨ g = f) (u : Vc) : Lot p (spn gs) u ↔ Lot p (spn fs) u := by
  refine Lot.iff (fun v hv => ?_) (fun v hv => ?_) u
  · obtain ⟨k, hk, rfl⟩ := hv
    rcases (hg k).mp hk with m | m
    · exact Lot.of ⟨k, m, rfl⟩
    · rw [m]
      exact hf
  · obtain ⟨k, hk, rfl⟩ := hv
    exact Lot.of ⟨k, (hg k).mpr (.inl hk), rfl⟩
/-! ### a plain set that is drawn -/
structure Pln (p : Int) (n : Nat) (qs : List Nat) (fs : List (List Int)) : Prop where
  len : fs.length = qs.length
  up : qs.Pairwise (· < ·)
  lt : ∀ q ∈ qs, q < n
  row : ∀ (i q : Nat) (f : List Int), qs[i]? = some q → fs[i]? = some f → f.length = n ∧ Rg p f ∧ (∀ j, j < q → vec f j = 0) ∧ vec f q = 1 ∧ ∀ o ∈ qs, q < o → vec f o = 0
theorem mem_zip_get {qs : List Nat} {fs : List (List Int)} {x : Nat × List Int} (h : x ∈ qs.zip fs) : ∃ i : Nat, qs[i]? = some x.1 ∧ fs[i]? = some x.2 := by
  obtain ⟨i, hi, e⟩ := List.mem_iff_getElem.mp h
  have hi' : i < qs.length ∧ i < fs.length := by
    rw [List.length_zip] at hi
    omega
  refine ⟨i, ?_, ?_⟩
  · rw [← e, List.getElem_zip, List.getElem?_eq_getElem hi'.1]
  · rw [← e, List.getElem_zip, List.getElem?_eq_getElem hi'.2]
theorem zip_places : ∀ {qs : List Nat} {fs : List (List Int)}, fs.length = qs.length → (qs.zip fs).map (·.1) = qs
  | [], _, _ => rfl
  | _ :: _, [], h => by simp at h
  | q :: qs, f :: fs, h => by
    rw [List.zip_cons_cons, List.map_cons, zip_places (by simpa using h)]
theorem Pln.pl {p : Int} {n : Nat} {qs : List Nat} {fs : List (List Int)} (h : Pln p n qs fs) : PL p n fs (qs.zip fs) ∧ Up (qs.zip fs) := by
  have pls := zip_places h.len
  refine ⟨⟨fun x hx => ?_, fun x hx => ?_, fun x hx => ?_, ?_, ⟨fun y hy => ?_, fun y hy z hz ne => ?_⟩, fun y hy i hi => ?_, fun u => ?_⟩, ?_⟩
  · obtain ⟨i, h1, h2⟩ := mem_zip_get hx
    exact (h.row i _ _ h1 h2).1
  · obtain ⟨i, h1, h2⟩ := mem_zip_get hx
    exact (h.row i _ _ h1 h2).2.1
  · exact h.lt _ (List.of_mem_zip hx).1
  · rw [pls]
    exact h.up.imp fun {a b} h => Nat.ne_of_lt h
  · obtain ⟨x, hx, rfl⟩ := mem_vecs.mp hy
    obtain ⟨i, h1, h2⟩ := mem_zip_get hx
    show Cg p (vec x.2 x.1) 1
    rw [(h.row i _ _ h1 h2).2.2.2.1]
    exact Cg.rfl'
  · obtain ⟨x, hx, rfl⟩ := mem_vecs.mp hy
    obtain ⟨w, hw, rfl⟩ := mem_vecs.mp hz
    obtain ⟨i, h1, h2⟩ := mem_zip_get hx
    have r := h.row i _ _ h1 h2
    show Cg p (vec x.2 w.1) 0
    have ne' : x.1 ≠ w.1 := ne
    rcases Nat.lt_or_ge w.1 x.1 with l | l
    · rw [r.2.2.1 _ l]
      exact Cg.rfl'
    · rw [r.2.2.2.2 w.1 (List.of_mem_zip hw).1 (by omega)]
      exact Cg.rfl'
  · obtain ⟨x, hx, rfl⟩ := mem_vecs.mp hy
    obtain ⟨j, h1, h2⟩ := mem_zip_get hx
    show Cg p (vec x.2 i) 0
    rw [(h.row j _ _ h1 h2).2.2.1 i hi]
    exact Cg.rfl'
  · have e : rowsOf (vecs (qs.zip fs)) = spn fs := by
      funext v
      apply propext
      constructor
      · rintro ⟨y, hy, rfl⟩
        obtain ⟨x, hx, rfl⟩ := mem_vecs.mp hy
        exact ⟨x.2, (List.of_mem_zip hx).2, rfl⟩
      · rintro ⟨f, hf, rfl⟩
        obtain ⟨i, hi, rfl⟩ := List.mem_iff_getElem.mp hf
        have hq : i < qs.length := by rw [← h.len]; exact hi
        refine ⟨(qs[i], vec fs[i]), mem_vecs.mpr ⟨(qs[i], fs[i]), ?_, rfl⟩, rfl⟩
        exact List.mem_iff_getElem.mpr ⟨i, by rw [List.length_zip]; omega, by rw [List.getElem_zip]⟩
    rw [e]
  · show ((qs.zip fs).map (·.1)).Pairwise (· < ·)
    rw [pls]
    exact h.up
/-! ### a list of numbers as a row -/
def ev2 {α : Type} : List α → List α
  | [] => []
  | [a] => [a]
  | a :: _ :: r => a :: ev2 r
theorem ev2_cons {α : Type} (b : α) : ∀ r : List α, ev2 (b :: r) = b :: ev2 (r.drop 1)
  | [] => rfl
  | _ :: _ => rfl
def rowL (us : List Int) : List (Int × Int) := (ev2 us).zip (ev2 (us.drop 1))
theorem rowL_flat : ∀ (m : Nat) (us : List Int), us.length = 2 * m → flatR (rowL us) = us ∧ (rowL us).length = m
  | 0, [], _ => ⟨rfl, rfl⟩
  | 0, _ :: _, h => by simp at h
  | m + 1, [], h => by simp at h
  | m + 1, [_], h => by simp at h; omega
  | m + 1, a :: b :: r, h => by
    have hr : r.length = 2 * m := by
      simp only [List.length_cons] at h
      omega
    obtain ⟨h1, h2⟩ := rowL_flat m r hr
    have e : rowL (a :: b :: r) = (a, b) :: rowL r := by
      show (a :: ev2 r).zip (ev2 (b :: r)) = _
      rw [ev2_cons]
      rfl
    rw [e]
    exact ⟨by rw [flat_cons, h1], by rw [List.length_cons, h2]⟩
theorem erase_perm {α : Type} {ps : List α} {k : Nat} {x : α} (h : ps[k]? = some x) (qs : List α) : (ps.eraseIdx k ++ (qs ++ [x])).Perm (ps ++ qs) := by
  have hk := (List.getElem?_eq_some_iff.mp h).1
  have e1 : ps.eraseIdx k = ps.take k ++ ps.drop (k + 1) := List.eraseIdx_eq_take_drop_succ ps k
  have e2 : ps = ps.take k ++ x :: ps.drop (k + 1) := by
    have z : x = ps[k] := by
      rw [List.getElem?_eq_getElem hk] at h
      exact (Option.some.inj h).symm
    rw [z, ← List.drop_eq_getElem_cons hk, List.take_append_drop]
  rw [e1]
  conv => rhs; rw [e2]
  rw [List.append_assoc, List.append_assoc]
  refine List.Perm.append_left _ ?_
  rw [List.cons_append, ← List.append_assoc]
  exact List.perm_append_singleton x _
/-! ### mirrors -/
def shf (u : Vc) : Vc := fun i => u (i + 1)
/-- the sum of products, place by place -/
def dot : Vc → Vc → Nat → Int
  | _, _, 0 => 0
  | u, v, n + 1 => u 0 * v 0 + dot (shf u) (shf v) n
theorem dot_comb {c : Int} : ∀ (n : Nat) (u v w : Vc), dot u (fun i => v i + c * w i) n = dot u v n + c * dot u w n
  | 0, _, _, _ => by simp [dot]
  | n + 1, u, v, w => by
    have ih := dot_comb (c := c) n (shf u) (shf v) (shf w)
    show u 0 * (v 0 + c * w 0) + dot (shf u) (fun i => shf v i + c * shf w i) n = u 0 * v 0 + dot (shf u) (shf v) n + c * (u 0 * w 0 + dot (shf u) (shf w) n)
    rw [ih]
    grind
theorem dot_combL {c : Int} : ∀ (n : Nat) (u v w : Vc), dot (fun i => u i + c * v i) w n = dot u w n + c * dot v w n
  | 0, _, _, _ => by simp [dot]
  | n + 1, u, v, w => by
    have ih := dot_combL (c := c) n (shf u) (shf v) (shf w)
    show (u 0 + c * v 0) * w 0 + dot (fun i => shf u i + c * shf v i) (shf w) n = u 0 * w 0 + dot (shf u) (shf w) n + c * (v 0 * w 0 + dot (shf v) (shf w) n)
    rw [ih]
    grind
theorem dot_eqv {p : Int} : ∀ (n : Nat) {u v w x : Vc}, Eqv p u v → Eqv p w x → Cg p (dot u w n) (dot v x n)
  | 0, _, _, _, _, _, _ => Cg.rfl'
  | n + 1, _, _, _, _, h, k => ((h 0).mul (k 0)).add (dot_eqv n (fun i => h (i + 1)) fun i => k (i + 1))
theorem dot_zero : ∀ (n : Nat) (u : Vc), dot u (fun _ => 0) n = 0
  | 0, _ => rfl
  | n + 1, u => by
    show u 0 * 0 + dot (shf u) (fun _ => 0) n = 0
    rw [dot_zero n]
    simp
theorem dot_zeroL : ∀ (n : Nat) (u : Vc), dot (fun _ => 0) u n = 0
  | 0, _ => rfl
  | n + 1, u => by
    show 0 * u 0 + dot (fun _ => 0) (shf u) n = 0
    rw [dot_zeroL n]
    simp
theorem dot_comm : ∀ (n : Nat) (u v : Vc), dot u v n = dot v u n
  | 0, _, _ => rfl
  | n + 1, u, v => by
    show u 0 * v 0 + dot (shf u) (shf v) n = v 0 * u 0 + dot (shf v) (shf u) n
    rw [dot_comm n, Int.mul_comm]
def un (j : Nat) : Vc := fun i => if i = j then 1 else 0
theorem shf_un0 : shf (un 0) = fun _ => 0 := by
  funext i
  show (if i + 1 = 0 then (1 : Int) else 0) = 0
  rw [if_neg (by omega)]
theorem shf_unS {j : Nat} : shf (un (j + 1)) = un j := by
  funext i
  show (if i + 1 = j + 1 then (1 : Int) else 0) = if i = j then 1 else 0
  by_cases h : i = j
  · rw [if_pos h, if_pos (by omega)]
  · rw [if_neg h, if_neg (by omega)]
theorem dot_un : ∀ (n j : Nat) (u : Vc), j < n → dot u (un j) n = u j
  | 0, _, _, h => absurd h (Nat.not_lt_zero _)
  | n + 1, 0, u, _ => by
    show u 0 * 1 + dot (shf u) (shf (un 0)) n = u 0
    rw [shf_un0, dot_zero]
    omega
  | n + 1, j + 1, u, h => by
    show u 0 * 0 + dot (shf u) (shf (un (j + 1))) n = u (j + 1)
    rw [shf_unS, dot_un n j (shf u) (by omega)]
    show u 0 * 0 + u (j + 1) = u (j + 1)
    omega
/-- sums of units -/
def cu (a : Nat × Vc → Int) : List (Nat × Vc) → Vc
  | [] => fun _ => 0
  | x :: L => fun i => a x * un x.1 i + cu a L i
theorem dot_cu {a : Nat × Vc → Int} {n : Nat} {u : Vc} : ∀ {L : List (Nat × Vc)}, (∀ x ∈ L, x.1 < n) → dot u (cu a L) n = combV (L.map fun x => (u x.1, fun _ => a x)) 0
  | [], _ => dot_zero n u
  | x :: L, h => by
    have ih := dot_cu (a := a) (u := u) (L := L) fun y hy => h y (List.mem_cons_of_mem _ hy)
    have e : cu a (x :: L) = fun i => cu a L i + a x * un x.1 i := by
      funext i
      show a x * un x.1 i + cu a L i = _
      omega
    rw [e, dot_comb, ih, dot_un n x.1 u (h x (by simp))]
    show combV (L.map fun x => (u x.1, fun _ => a x)) 0 + a x * u x.1 = u x.1 * a x + combV (L.map fun x => (u x.1, fun _ => a x)) 0
    rw [Int.mul_comm]
    omega
theorem own_as {u : Vc} {f : Nat} : ∀ {L : List (Nat × Vc)}, combV (L.map fun x => (u x.1, fun _ => x.2 f)) 0 = own u L f
  | [] => rfl
  | x :: L => by
    show u x.1 * x.2 f + combV (L.map fun x => (u x.1, fun _ => x.2 f)) 0 = u x.1 * x.2 f + own u L f
    rw [own_as]
/-- the row that is free at f -/
def frV (f : Nat) (L : List (Nat × Vc)) : Vc := fun i => un f i + -1 * cu (fun x => x.2 f) L i
theorem dot_fr {n f : Nat} {L : List (Nat × Vc)} {u : Vc} (hf : f < n) (hL : ∀ x ∈ L, x.1 < n) : dot u (frV f L) n = left u L f := by
  show dot u (fun i => un f i + -1 * cu (fun x => x.2 f) L i) n = u f - own u L f
  rw [dot_comb, dot_un n f u hf, dot_cu hL, own_as]
  omega
theorem cu_out {a : Nat × Vc → Int} {i : Nat} : ∀ {L : List (Nat × Vc)}, (∀ x ∈ L, x.1 ≠ i) → cu a L i = 0
  | [], _ => rfl
  | x :: L, h => by
    show a x * un x.1 i + cu a L i = 0
    rw [cu_out fun y hy => h y (List.mem_cons_of_mem _ hy)]
    have e : un x.1 i = 0 := if_neg fun z => h x (by simp) z.symm
    rw [e]
    simp
theorem cu_at {a : Nat × Vc → Int} : ∀ {L : List (Nat × Vc)}, (L.map (·.1)).Nodup → ∀ {x : Nat × Vc}, x ∈ L → cu a L x.1 = a x
  | [], _, _, h => by cases h
  | y :: L, nd, x, h => by
    have nd' := List.nodup_cons.mp (by simpa using nd : (y.1 :: L.map (·.1)).Nodup)
    show a y * un y.1 x.1 + cu a L x.1 = a x
    rcases List.mem_cons.mp h with rfl | h
    · rw [cu_out fun z hz e => nd'.1 (by rw [← e]; exact List.mem_map.mpr ⟨z, hz, rfl⟩)]
      have e : un x.1 x.1 = 1 := if_pos rfl
      rw [e]
      omega
    · have ne : x.1 ≠ y.1 := fun e => nd'.1 (by rw [← e]; exact List.mem_map.mpr ⟨x, h, rfl⟩)
      have e : un y.1 x.1 = 0 := if_neg ne
      rw [e, cu_at nd'.2 h]
      omega
theorem fr_self {f : Nat} {L : List (Nat × Vc)} (h : ∀ x ∈ L, x.1 ≠ f) : frV f L f = 1 := by
  show un f f + -1 * cu (fun x => x.2 f) L f = 1
  rw [cu_out h]
  have e : un f f = 1 := if_pos rfl
  rw [e]
  omega
theorem fr_other {f g : Nat} {L : List (Nat × Vc)} (h : ∀ x ∈ L, x.1 ≠ g) (ne : f ≠ g) : frV f L g = 0 := by
  show un f g + -1 * cu (fun x => x.2 f) L g = 0
  rw [cu_out h]
  have e : un f g = 0 := if_neg fun z => ne z.symm
  rw [e]
  omega
/-- nothing from n on -/
def Sup (n : Nat) (u : Vc) : Prop := ∀ i, n ≤ i → u i = 0
theorem sup_vec {n : Nat} {us : List Int} (h : us.length = n) : Sup n (vec us) := fun i hi => vec_out (by omega)
theorem dot_lotR {p : Int} {n : Nat} {R : Vc → Prop} {u v : Vc} (h : Lot p R v) (k : ∀ w, R w → Cg p (dot u w n) 0) : Cg p (dot u v n) 0 := by
  induction h with
  | zero =>
    rw [dot_zero]
    exact Cg.rfl'
  | add c _ r ih =>
    rw [dot_comb]
    have a := ih.add ((Cg.rfl' (a := c)).mul (k _ r))
    rw [Int.mul_zero] at a
    exact a
  | eqv _ e ih => exact (dot_eqv n Eqv.refl e).symm.trans ih
theorem dot_lotL {p : Int} {n : Nat} {R : Vc → Prop} {u v : Vc} (h : Lot p R u) (k : ∀ w, R w → Cg p (dot w v n) 0) : Cg p (dot u v n) 0 := by
  rw [dot_comm]
  exact dot_lotR h fun w hw => by
    rw [dot_comm]
    exact k w hw
/-- free rows of leads: what they span is just what all the leads make 0 with -/
theorem fr_ker {p : Int} {n : Nat} {L : List (Nat × Vc)} {fs : List Nat} (hL : Leads p L) (nd : (L.map (·.1)).Nodup) (pl : ∀ x ∈ L, x.1 < n) (hf : ∀ f, f ∈ fs ↔ f < n ∧ ∀ x ∈ L, x.1 ≠ f) (ndf : fs.Nodup) {w : Vc} (sw : Sup n w) :
    Lot p (fun v => ∃ f ∈ fs, v = frV f L) w ↔ ∀ x ∈ L, Cg p (dot x.2 w n) 0 := by
  have z : ∀ f ∈ fs, ∀ x ∈ L, Cg p (dot x.2 (frV f L) n) 0 := fun f h x hx => by
    rw [dot_fr ((hf f).mp h).1 pl]
    exact (lot_left hL nd).mp (Lot.of ⟨x, hx, rfl⟩) f
  constructor
  · intro h x hx
    exact dot_lotR h fun v ⟨f, hf', e⟩ => by
      rw [e]
      exact z f hf' x hx
  · intro h
    have M : Leads p (fs.map fun f => (f, frV f L)) := by
      refine ⟨fun y hy => ?_, fun y hy y' hy' ne => ?_⟩
      · obtain ⟨f, h1, rfl⟩ := List.mem_map.mp hy
        show Cg p (frV f L f) 1
        rw [fr_self ((hf f).mp h1).2]
        exact Cg.rfl'
      · obtain ⟨f, h1, rfl⟩ := List.mem_map.mp hy
        obtain ⟨g, h2, rfl⟩ := List.mem_map.mp hy'
        show Cg p (frV f L g) 0
        rw [fr_other ((hf g).mp h2).2 ne]
        exact Cg.rfl'
    have ndM : ((fs.map fun f => (f, frV f L)).map (·.1)).Nodup := by
      rw [List.map_map]
      have e : ((fun x : Nat × Vc => x.1) ∘ fun f => (f, frV f L)) = id := rfl
      rw [e, List.map_id]
      exact ndf
    have key : Eqv p (left w (fs.map fun f => (f, frV f L))) fun _ => 0 := by
      have atf : ∀ f ∈ fs, Cg p (left w (fs.map fun f => (f, frV f L)) f) 0 := fun f h1 => left_at M ndM (x := (f, frV f L)) (List.mem_map.mpr ⟨f, h1, rfl⟩)
      have ownz : ∀ i, n ≤ i → own w (fs.map fun f => (f, frV f L)) i = 0 := fun i hi => by
        have all : ∀ gs : List Nat, (∀ g ∈ gs, g < n) → own w (gs.map fun f => (f, frV f L)) i = 0 := by
          intro gs
          induction gs with
          | nil => intro _; rfl
          | cons g gs ih =>
            intro hg
            show w g * frV g L i + own w (gs.map fun f => (f, frV f L)) i = 0
            have e0 : frV g L i = 0 := fr_other (fun x hx e => by have := pl x hx; omega) (by have := hg g (by simp); omega)
            rw [ih fun g' h' => hg g' (List.mem_cons_of_mem _ h'), e0]
            simp
        exact all fs fun g h1 => ((hf g).mp h1).1
      have out : ∀ i, (∀ x ∈ L, x.1 ≠ i) → Cg p (left w (fs.map fun f => (f, frV f L)) i) 0 := fun i hi => by
        by_cases h1 : i < n
        · exact atf i ((hf i).mpr ⟨h1, hi⟩)
        · show Cg p (w i - own w (fs.map fun f => (f, frV f L)) i) 0
          rw [sw i (by omega), ownz i (by omega)]
          exact ⟨0, by simp⟩
      -- made of units at the leads' places
      have asu : Eqv p (left w (fs.map fun f => (f, frV f L))) (cu (fun x => left w (fs.map fun f => (f, frV f L)) x.1) L) := fun i => by
        by_cases h1 : ∃ x ∈ L, x.1 = i
        · obtain ⟨x, hx, rfl⟩ := h1
          rw [cu_at nd hx]
          exact Cg.rfl'
        · have h2 : ∀ x ∈ L, x.1 ≠ i := fun x hx e => h1 ⟨x, hx, e⟩
          rw [cu_out h2]
          exact out i h2
      have lead0 : ∀ x ∈ L, Cg p (left w (fs.map fun f => (f, frV f L)) x.1) 0 := fun x hx => by
        have d1 : Cg p (dot x.2 (left w (fs.map fun f => (f, frV f L))) n) 0 := by
          have e : left w (fs.map fun f => (f, frV f L)) = fun i => w i + -1 * own w (fs.map fun f => (f, frV f L)) i := by
            funext i
            show w i - own w (fs.map fun f => (f, frV f L)) i = _
            omega
          rw [e, dot_comb]
          have o : Cg p (dot x.2 (own w (fs.map fun f => (f, frV f L))) n) 0 := dot_lotR (R := fun v => ∃ f ∈ fs, v = frV f L) (own_lot _ fun y hy => by
            obtain ⟨f, h1, rfl⟩ := List.mem_map.mp hy
            exact ⟨f, h1, rfl⟩) fun v ⟨f, h1, e⟩ => by
              rw [e]
              exact z f h1 x hx
          have a := (h x hx).add ((Cg.rfl' (a := -1)).mul o)
          rw [Int.mul_zero] at a
          exact a
        have d2 := (dot_eqv n (Eqv.refl (u := x.2)) asu).symm.trans d1
        rw [dot_cu pl] at d2
        -- only x itself counts
        have d4 : ∀ (M : List (Nat × Vc)) (a : Nat × Vc → Int), (∀ y ∈ M, y ∈ L) → (M.map (·.1)).Nodup → Cg p (combV (M.map fun y => (x.2 y.1, fun _ => a y)) 0) (if x.1 ∈ M.map (·.1) then cu a M x.1 else 0) := by
          intro M a
          induction M with
          | nil =>
            intro _ _
            exact Cg.rfl'
          | cons y M ih =>
            intro hM ndM'
            have nd' := List.nodup_cons.mp (by simpa using ndM' : (y.1 :: M.map (·.1)).Nodup)
            have ih' := ih (fun z hz => hM z (List.mem_cons_of_mem _ hz)) nd'.2
            show Cg p (x.2 y.1 * a y + combV (M.map fun y => (x.2 y.1, fun _ => a y)) 0) _
            by_cases e : x.1 = y.1
            · have n1 : x.1 ∉ M.map (·.1) := by rw [e]; exact nd'.1
              rw [if_neg n1] at ih'
              have m1 : x.1 ∈ (y :: M).map (·.1) := by rw [e]; simp
              rw [if_pos m1]
              show Cg p _ (a y * un y.1 x.1 + cu a M x.1)
              have c0 : cu a M x.1 = 0 := cu_out fun z hz e2 => n1 (List.mem_map.mpr ⟨z, hz, e2⟩)
              have u1 : un y.1 x.1 = 1 := if_pos e
              rw [c0, u1]
              have s1 := hL.self x hx
              rw [e] at s1
              have a1 := (s1.mul (Cg.rfl' (a := a y))).add ih'
              have e3 : (1 : Int) * a y + 0 = a y * 1 + 0 := by omega
              rw [e3] at a1
              exact a1
            · have o1 := hL.other x hx y (hM y (by simp)) e
              have u0 : un y.1 x.1 = 0 := if_neg e
              by_cases m : x.1 ∈ M.map (·.1)
              · rw [if_pos m] at ih'
                have m1 : x.1 ∈ (y :: M).map (·.1) := by
                  rw [List.map_cons]
                  exact List.mem_cons_of_mem _ m
                rw [if_pos m1]
                show Cg p _ (a y * un y.1 x.1 + cu a M x.1)
                rw [u0]
                have a1 := (o1.mul (Cg.rfl' (a := a y))).add ih'
                have e3 : (0 : Int) * a y + cu a M x.1 = a y * 0 + cu a M x.1 := by simp
                rw [e3] at a1
                exact a1
              · rw [if_neg m] at ih'
                have m1 : x.1 ∉ (y :: M).map (·.1) := by
                  rw [List.map_cons]
                  intro mm
                  rcases List.mem_cons.mp mm with q | q
                  · exact e q
                  · exact m q
                rw [if_neg m1]
                have a1 := (o1.mul (Cg.rfl' (a := a y))).add ih'
                have e3 : (0 : Int) * a y + 0 = 0 := by simp
                rw [e3] at a1
                exact a1
        have d5 := d4 L (fun y => left w (fs.map fun f => (f, frV f L)) y.1) (fun _ h => h) nd
        rw [if_pos (List.mem_map.mpr ⟨x, hx, rfl⟩), cu_at nd hx] at d5
        exact d5.symm.trans d2
      intro i
      by_cases h1 : ∃ x ∈ L, x.1 = i
      · obtain ⟨x, hx, rfl⟩ := h1
        exact lead0 x hx
      · exact out i fun x hx e => h1 ⟨x, hx, e⟩
    refine Lot.sub (fun v hv => ?_) ((lot_left M ndM).mpr key)
    obtain ⟨y, hy, rfl⟩ := hv
    obtain ⟨f, h1, rfl⟩ := List.mem_map.mp hy
    exact Lot.of ⟨f, h1, rfl⟩
/-- what makes 0 with all free rows is in the lot of the leads -/
theorem fr_back {p : Int} {n : Nat} {L : List (Nat × Vc)} {fs : List Nat} (hL : Leads p L) (nd : (L.map (·.1)).Nodup) (pl : ∀ x ∈ L, x.1 < n) (hf : ∀ f, f ∈ fs ↔ f < n ∧ ∀ x ∈ L, x.1 ≠ f) (sL : ∀ x ∈ L, Sup n x.2) {u : Vc} (su : Sup n u) (h : ∀ f ∈ fs, Cg p (dot u (frV f L) n) 0) : Lot p (rowsOf L) u := by
  refine (lot_left hL nd).mpr fun i => ?_
  by_cases h1 : ∃ x ∈ L, x.1 = i
  · obtain ⟨x, hx, rfl⟩ := h1
    exact left_at hL nd hx
  · have h2 : ∀ x ∈ L, x.1 ≠ i := fun x hx e => h1 ⟨x, hx, e⟩
    by_cases h3 : i < n
    · have a := h i ((hf i).mpr ⟨h3, h2⟩)
      rw [dot_fr h3 pl] at a
      exact a
    · have o : own u L i = 0 := by
        have all : ∀ M : List (Nat × Vc), (∀ x ∈ M, x ∈ L) → own u M i = 0 := by
          intro M
          induction M with
          | nil => intro _; rfl
          | cons y M ih =>
            intro hM
            show u y.1 * y.2 i + own u M i = 0
            rw [ih fun z hz => hM z (List.mem_cons_of_mem _ hz), sL y (hM y (by simp)) i (by omega)]
            simp
        exact all L fun _ h => h
      show Cg p (u i - own u L i) 0
      rw [su i (by omega), o]
      exact ⟨0, by simp⟩
/-! ### rows crossed -/
def crs (u : Vc) : Vc := fun i => if i % 2 = 0 then -u (i + 1) else u (i - 1)
theorem crs_comb {u v : Vc} {c : Int} (i : Nat) : crs (fun j => u j + c * v j) i = crs u i + c * crs v i := by
  unfold crs
  split
  · grind
  · rfl
theorem crs_eqv {p : Int} {u v : Vc} (h : Eqv p u v) : Eqv p (crs u) (crs v) := fun i => by
  unfold crs
  split
  · have a := (Cg.rfl' (p := p) (a := 0)).sub (h (i + 1))
    rw [Int.zero_sub, Int.zero_sub] at a
    exact a
  · exact h (i - 1)
theorem crs_crs (u : Vc) (i : Nat) : crs (crs u) i = -u i := by
  unfold crs
  by_cases h : i % 2 = 0
  · rw [if_pos h, if_neg (by omega)]
    rfl
  · rw [if_neg h, if_pos (by omega)]
    have e : i - 1 + 1 = i := by omega
    rw [e]
def crsR (R : Vc → Prop) : Vc → Prop := fun v => ∃ w, R w ∧ v = crs w
theorem crs_lot {p : Int} {R : Vc → Prop} {u : Vc} (h : Lot p R u) : Lot p (crsR R) (crs u) := by
  induction h with
  | zero => exact .eqv .zero fun i => ⟨0, by unfold crs; split <;> simp⟩
  | @add u v c _ r ih => exact .eqv (.add c ih ⟨v, r, rfl⟩) fun i => ⟨0, by rw [crs_comb]; omega⟩
  | eqv _ e ih => exact .eqv ih (crs_eqv e)
theorem crs_back {p : Int} {R : Vc → Prop} {u : Vc} (h : Lot p (crsR R) (crs u)) : Lot p R u := by
  have a : Lot p R (crs (crs u)) := Lot.sub (fun v hv => by
    obtain ⟨w, ⟨x, hx, rfl⟩, rfl⟩ := hv
    exact .eqv (Lot.comb (-1) .zero (Lot.of hx)) fun i => ⟨0, by rw [crs_crs]; omega⟩) (crs_lot h)
  exact .eqv (Lot.comb (-1) .zero a) fun i => ⟨0, by rw [crs_crs]; omega⟩
def crsP (p : Int) (r : List (Int × Int)) : List (Int × Int) := r.map fun u => (-u.2 % p, u.1)
theorem vec_crs {p : Int} : ∀ {r : List (Int × Int)}, Eqv p (vec (flatR (crsP p r))) (crs (vec (flatR r)))
  | [] => fun i => ⟨0, by simp [crsP, flatR, vec, crs]⟩
  | u :: r => fun i => by
    have e : crsP p (u :: r) = (-u.2 % p, u.1) :: crsP p r := rfl
    rw [e, flat_cons]
    show Cg p (vec (-u.2 % p :: u.1 :: flatR (crsP p r)) i) (crs (vec (flatR (u :: r))) i)
    rw [flat_cons]
    match i with
    | 0 =>
      show Cg p (-u.2 % p) (-u.2)
      exact Cg.mod _
    | 1 => exact Cg.rfl'
    | i + 2 =>
      rw [vec_succ, vec_succ]
      have ih := vec_crs (p := p) (r := r) i
      have e2 : crs (vec (u.1 :: u.2 :: flatR r)) (i + 2) = crs (vec (flatR r)) i := by
        unfold crs
        by_cases h : i % 2 = 0
        · rw [if_pos h, if_pos (by omega)]
          rw [vec_succ, vec_succ]
        · rw [if_neg h, if_neg (by omega)]
          have e3 : i + 2 - 1 = i - 1 + 1 + 1 := by omega
          rw [e3, vec_succ, vec_succ]
      rw [e2]
      exact ih
theorem crs_flat {u : Int × Int} {r : List (Int × Int)} : shf (shf (crs (vec (flatR (u :: r))))) = crs (vec (flatR r)) := by
  funext i
  show crs (vec (flatR (u :: r))) (i + 1 + 1) = _
  rw [flat_cons]
  unfold crs
  by_cases h : i % 2 = 0
  · rw [if_pos h, if_pos (by omega), vec_succ, vec_succ]
  · rw [if_neg h, if_neg (by omega)]
    have e3 : i + 1 + 1 - 1 = i - 1 + 1 + 1 := by omega
    rw [e3, vec_succ, vec_succ]
theorem shf_flat {u : Int × Int} {r : List (Int × Int)} : shf (shf (vec (flatR (u :: r)))) = vec (flatR r) := by
  funext i
  show vec (flatR (u :: r)) (i + 1 + 1) = _
  rw [flat_cons, vec_succ, vec_succ]
/-- the meet of two rows is the dot of the one crossed and the other -/
theorem meet_dot : ∀ {r s : List (Int × Int)}, r.length = s.length → (List.zipWith (fun u v => u.1 * v.2 - v.1 * u.2) r s).sum = dot (crs (vec (flatR r))) (vec (flatR s)) (2 * r.length)
  | [], [], _ => rfl
  | [], _ :: _, h => by simp at h
  | _ :: _, [], h => by simp at h
  | u :: r, v :: s, h => by
    have ih := meet_dot (r := r) (s := s) (by simpa using h)
    have e : 2 * (u :: r).length = 2 * r.length + 1 + 1 := by rw [List.length_cons]; omega
    rw [e]
    show (u.1 * v.2 - v.1 * u.2) + (List.zipWith (fun u v => u.1 * v.2 - v.1 * u.2) r s).sum = crs (vec (flatR (u :: r))) 0 * vec (flatR (v :: s)) 0 + (crs (vec (flatR (u :: r))) 1 * vec (flatR (v :: s)) 1 + dot (shf (shf (crs (vec (flatR (u :: r)))))) (shf (shf (vec (flatR (v :: s))))) (2 * r.length))
    rw [crs_flat, shf_flat, ih]
    have c0 : crs (vec (flatR (u :: r))) 0 = -u.2 := rfl
    have c1 : crs (vec (flatR (u :: r))) 1 = u.1 := rfl
    have v0 : vec (flatR (v :: s)) 0 = v.1 := rfl
    have v1 : vec (flatR (v :: s)) 1 = v.2 := rfl
    rw [c0, c1, v0, v1]
    grind
/-- the dot crossed on the one side is that crossed on the other, less -/
theorem dot_crs : ∀ (m : Nat) (u v : Vc), dot (crs u) v (2 * m) = -dot (crs v) u (2 * m)
  | 0, _, _ => rfl
  | m + 1, u, v => by
    have e : 2 * (m + 1) = 2 * m + 1 + 1 := by omega
    have sh : ∀ w : Vc, shf (shf (crs w)) = crs (shf (shf w)) := fun w => by
      funext i
      show crs w (i + 1 + 1) = crs (shf (shf w)) i
      unfold crs
      by_cases h : i % 2 = 0
      · rw [if_pos h, if_pos (by omega)]
        rfl
      · rw [if_neg h, if_neg (by omega)]
        show w (i + 1 + 1 - 1) = w (i - 1 + 1 + 1)
        congr 1
        omega
    have ih := dot_crs m (shf (shf u)) (shf (shf v))
    rw [e]
    show crs u 0 * v 0 + (crs u 1 * v 1 + dot (shf (shf (crs u))) (shf (shf v)) (2 * m)) = -(crs v 0 * u 0 + (crs v 1 * u 1 + dot (shf (shf (crs v))) (shf (shf u)) (2 * m)))
    rw [sh u, sh v, ih]
    have a0 : crs u 0 = -u 1 := rfl
    have a1 : crs u 1 = u 0 := rfl
    have b0 : crs v 0 = -v 1 := rfl
    have b1 : crs v 1 = v 0 := rfl
    rw [a0, a1, b0, b1]
    grind
/-! ### how many leads -/
theorem PL.len_eq {p : Int} {n : Nat} {fs gs : List (List Int)} {L M : List (Nat × List Int)} (p1 : 1 < p) (hL : PL p n fs L) (hM : PL p n gs M) (e : ∀ u, Lot p (spn fs) u ↔ Lot p (spn gs) u) : L.length = M.length := by
  have sub : ∀ x ∈ vecs L, Lot p (rowsOf (vecs M)) x.2 := fun x hx => (hM.lot _).mpr ((e _).mp ((hL.lot _).mp (Lot.of ⟨x, hx, rfl⟩)))
  have sup : ∀ x ∈ vecs M, Lot p (rowsOf (vecs L)) x.2 := fun x hx => (hL.lot _).mpr ((e _).mpr ((hM.lot _).mp (Lot.of ⟨x, hx, rfl⟩)))
  have pm : (L.map (·.1)).Perm (M.map (·.1)) := by
    refine (List.perm_ext_iff_of_nodup hL.nd hM.nd).mpr fun a => ?_
    rw [← vecs_places, ← vecs_places (L := M)]
    constructor
    · intro ha
      obtain ⟨x, hx, rfl⟩ := List.mem_map.mp ha
      obtain ⟨y, hy, ey⟩ := place_in p1 hL.leads hL.ahead hM.leads hM.ahead hM.ndv sub hx
      exact List.mem_map.mpr ⟨y, hy, ey⟩
    · intro ha
      obtain ⟨x, hx, rfl⟩ := List.mem_map.mp ha
      obtain ⟨y, hy, ey⟩ := place_in p1 hM.leads hM.ahead hL.leads hL.ahead hL.ndv sup hx
      exact List.mem_map.mpr ⟨y, hy, ey⟩
  have := pm.length_eq
  simpa using this
/-- each has a place at which those ahead of it have 0, and it not -/
inductive Fresh (p : Int) : List (List Int) → Prop
  | nil : Fresh p []
  | snoc {fs : List (List Int)} {f : List Int} (q : Nat) : Fresh p fs → (∀ g ∈ fs, Cg p (vec g q) 0) → ¬ Cg p (vec f q) 0 → Fresh p (fs ++ [f])
theorem Lot.at0 {p : Int} {R : Vc → Prop} {u : Vc} {q : Nat} (h : Lot p R u) (k : ∀ v, R v → Cg p (v q) 0) : Cg p (u q) 0 := by
  induction h with
  | zero => exact Cg.rfl'
  | add c _ r ih =>
    have a := ih.add ((Cg.rfl' (a := c)).mul (k _ r))
    rw [Int.mul_zero] at a
    exact a
  | eqv _ e ih => exact (e q).symm.trans ih
theorem Fresh.pl {p : Int} {n : Nat} (p1 : 1 < p) (inv : ∀ u, 0 < u → u < p → ∃ c, c * u % p = 1) {fs : List (List Int)} (h : Fresh p fs) (hf : ∀ f ∈ fs, f.length = n ∧ Rg p f) : ∃ L, PL p n fs L ∧ L.length = fs.length := by
  induction h with
  | nil => exact ⟨[], PL.nil, rfl⟩
  | @snoc fs f q _ z nz ih =>
    obtain ⟨L, pl, ll⟩ := ih fun g hg => hf g (List.mem_append.mpr (.inl hg))
    obtain ⟨fl, fr⟩ := hf f (by simp)
    have p0 : 0 < p := by omega
    have notz : ¬ ∀ x ∈ clearL p f L, x = 0 := fun hz => nz (((pl.zero p0 fl fr).mp hz).at0 fun v hv => by
      obtain ⟨g, hg, rfl⟩ := hv
      exact z g hg)
    -- the first place that isn't 0
    have first : ∀ us : List Int, (¬ ∀ x ∈ us, x = 0) → ∃ (j : Nat) (u : Int), us[j]? = some u ∧ u ≠ 0 ∧ ∀ i, i < j → us[i]? = some 0 := by
      intro us
      induction us with
      | nil => intro h; exact absurd (fun x hx => by cases hx) h
      | cons a us ih2 =>
        intro h
        by_cases ha : a = 0
        · have h' : ¬ ∀ x ∈ us, x = 0 := fun k => h fun x hx => by
            rcases List.mem_cons.mp hx with rfl | hx
            · exact ha
            · exact k x hx
          obtain ⟨j, u, e1, e2, e3⟩ := ih2 h'
          refine ⟨j + 1, u, e1, e2, fun i hi => ?_⟩
          cases i with
          | zero => rw [ha]; rfl
          | succ i => exact e3 i (by omega)
        · exact ⟨0, a, rfl, ha, fun i hi => absurd hi (Nat.not_lt_zero _)⟩
    obtain ⟨j, u, e1, e2, e3⟩ := first _ notz
    have ur := clear_rg p0 L fr u (List.mem_of_getElem? e1)
    obtain ⟨c, hc⟩ := inv u (by omega) ur.2
    refine ⟨_, pl.step p1 fl fr e1 e2 e3 hc, ?_⟩
    rw [List.length_append, List.length_append]
    have e : (moreL p j (scaled p c (clearL p f L)) L).length = L.length := by simp [moreL]
    rw [e, ll]
    rfl
/-! ### the mirror of rows -/
structure Mir (p : Int) (n : Nat) (rs : List (List (Int × Int))) (vs : List (List Int)) : Prop where
  ker : ∀ w, Sup (2 * n) w → (Lot p (spn vs) w ↔ ∀ r ∈ rs, Cg p (dot (crs (vec (flatR r))) w (2 * n)) 0)
  bi : ∀ w, Sup (2 * n) w → (∀ v ∈ vs, Cg p (dot (crs w) (vec v) (2 * n)) 0) → Lot p (spn (rs.map flatR)) w
  cnt : ∀ K L, PL p (2 * n) (rs.map flatR) K → PL p (2 * n) vs L → L.length + K.length = 2 * n
theorem lot_both {p : Int} {R S : Vc → Prop} (h1 : ∀ v, R v → ∃ w, S w ∧ Eqv p w v) (h2 : ∀ v, S v → ∃ w, R w ∧ Eqv p w v) (u : Vc) : Lot p R u ↔ Lot p S u :=
  Lot.iff (fun v hv => let ⟨w, hw, e⟩ := h1 v hv; .eqv (Lot.of hw) e) (fun v hv => let ⟨w, hw, e⟩ := h2 v hv; .eqv (Lot.of hw) e) u
def crsF (p : Int) (rs : List (List (Int × Int))) : List (List Int) := rs.map fun r => flatR (crsP p r)
theorem crs_spn {p : Int} {rs : List (List (Int × Int))} (u : Vc) : Lot p (spn (crsF p rs)) u ↔ Lot p (crsR (spn (rs.map flatR))) u := by
  refine lot_both (fun v hv => ?_) (fun v hv => ?_) u
  · obtain ⟨f, hf, rfl⟩ := hv
    obtain ⟨r, hr, rfl⟩ := List.mem_map.mp hf
    exact ⟨_, ⟨vec (flatR r), ⟨flatR r, List.mem_map.mpr ⟨r, hr, rfl⟩, rfl⟩, rfl⟩, vec_crs.symm⟩
  · obtain ⟨w, ⟨f, hf, rfl⟩, rfl⟩ := hv
    obtain ⟨r, hr, rfl⟩ := List.mem_map.mp hf
    exact ⟨_, ⟨flatR (crsP p r), List.mem_map.mpr ⟨r, hr, rfl⟩, rfl⟩, vec_crs⟩
/-- the other number of the same pair -/
def mate (q : Nat) : Nat := if q % 2 = 0 then q + 1 else q - 1
theorem crs_mate {p : Int} (u : Vc) (q : Nat) : (Cg p (crs u (mate q)) 0 ↔ Cg p (u q) 0) := by
  unfold crs mate
  by_cases h : q % 2 = 0
  · rw [if_pos h, if_neg (by omega)]
    exact Iff.rfl
  · rw [if_neg h, if_pos (by omega)]
    have e : q - 1 + 1 = q := by omega
    rw [e]
    constructor
    · intro k
      have a := (Cg.rfl' (p := p) (a := 0)).sub k
      have e2 : (0 : Int) - -u q = u q := by omega
      rw [e2] at a
      exact a
    · intro k
      have a := (Cg.rfl' (p := p) (a := 0)).sub k
      have e2 : (0 : Int) - u q = -u q := by omega
      rw [e2] at a
      exact a
theorem crs_count {p : Int} {n : Nat} {rs : List (List (Int × Int))} {K L : List (Nat × List Int)} (p1 : 1 < p) (inv : ∀ u, 0 < u → u < p → ∃ c, c * u % p = 1) (hK : PL p (2 * n) (rs.map flatR) K) (hL : PL p (2 * n) (crsF p rs) L) : L.length = K.length := by
  have p0 : 0 < p := by omega
  have gv : ∀ x ∈ K, Eqv p (vec (flatR (crsP p (rowL x.2)))) (crs (vec x.2)) := fun x hx => by
    have e := (rowL_flat n x.2 (hK.len x hx)).1
    have a := vec_crs (p := p) (r := rowL x.2)
    rw [e] at a
    exact a
  have fresh : ∀ i, i ≤ K.length → Fresh p ((K.take i).map fun x => flatR (crsP p (rowL x.2))) := by
    intro i
    induction i with
    | zero => intro _; exact Fresh.nil
    | succ i ih =>
      intro hi
      have hi' : i < K.length := by omega
      have e : (K.take (i + 1)).map (fun x => flatR (crsP p (rowL x.2))) = (K.take i).map (fun x => flatR (crsP p (rowL x.2))) ++ [flatR (crsP p (rowL (K[i]).2))] := by
        rw [← List.take_append_getElem hi', List.map_append]
        rfl
      rw [e]
      have mi := List.getElem_mem hi'
      refine .snoc (mate (K[i]).1) (ih (by omega)) (fun g hg => ?_) ?_
      · obtain ⟨y, hy, rfl⟩ := List.mem_map.mp hg
        have my := List.mem_of_mem_take hy
        refine (gv y my _).trans ((crs_mate _ _).mpr ?_)
        have ne : y.1 ≠ (K[i]).1 := by
          have nd := hK.nd
          rw [← List.take_append_drop i K, List.map_append] at nd
          have z := (List.nodup_append.mp nd).2.2 y.1 (List.mem_map.mpr ⟨y, hy, rfl⟩) (K[i]).1 (List.mem_map.mpr ⟨K[i], List.mem_of_getElem? (i := 0) (by rw [List.getElem?_drop]; simp [hi']), rfl⟩)
          exact z
        exact hK.leads.other (y.1, vec y.2) (mem_vecs.mpr ⟨y, my, rfl⟩) ((K[i]).1, vec (K[i]).2) (mem_vecs.mpr ⟨K[i], mi, rfl⟩) ne
      · intro z
        have a := (crs_mate _ _).mp ((gv _ mi _).symm.trans z)
        exact one_zero p1 ((hK.leads.self ((K[i]).1, vec (K[i]).2) (mem_vecs.mpr ⟨K[i], mi, rfl⟩)).symm.trans a)
  have fr := fresh K.length (Nat.le_refl _)
  rw [List.take_length] at fr
  obtain ⟨M, hM, ml⟩ := fr.pl (n := 2 * n) p1 inv fun f hf => by
    obtain ⟨x, hx, rfl⟩ := List.mem_map.mp hf
    obtain ⟨e1, e2⟩ := rowL_flat n x.2 (hK.len x hx)
    refine ⟨by rw [flat_len]; unfold crsP; rw [List.length_map, e2], fun u hu => ?_⟩
    obtain ⟨w, hw, hm⟩ := List.mem_flatMap.mp hu
    obtain ⟨v, hv, rfl⟩ := List.mem_map.mp hw
    have m1 : v.1 ∈ flatR (rowL x.2) := List.mem_flatMap.mpr ⟨v, hv, by simp⟩
    rw [e1] at m1
    have m : u = -v.2 % p ∨ u = v.1 := by simpa using hm
    rcases m with e | e
    · rw [e]
      exact ⟨Int.emod_nonneg _ (by omega), Int.emod_lt_of_pos _ p0⟩
    · rw [e]
      exact hK.rg x hx _ m1
  rw [List.length_map] at ml
  rw [← ml]
  refine hL.len_eq p1 hM fun u => ?_
  rw [crs_spn]
  constructor
  · refine Lot.sub fun v hv => ?_
    obtain ⟨w, hw, rfl⟩ := hv
    have a := crs_lot ((hK.lot w).mpr (Lot.of hw))
    refine Lot.sub (fun y hy => ?_) a
    obtain ⟨x, ⟨z, hz, rfl⟩, rfl⟩ := hy
    obtain ⟨k, hk, rfl⟩ := mem_vecs.mp hz
    exact .eqv (Lot.of ⟨_, List.mem_map.mpr ⟨k, hk, rfl⟩, rfl⟩) (gv k hk)
  · refine Lot.sub fun v hv => ?_
    obtain ⟨f, hf, rfl⟩ := hv
    obtain ⟨k, hk, rfl⟩ := List.mem_map.mp hf
    refine .eqv (crs_lot ((hK.lot (vec k.2)).mp (Lot.of ⟨(k.1, vec k.2), mem_vecs.mpr ⟨k, hk, rfl⟩, rfl⟩))) (gv k hk).symm
theorem sup_crs {n : Nat} {w : Vc} (h : Sup (2 * n) w) : Sup (2 * n) (crs w) := fun i hi => by
  unfold crs
  split
  · rw [h (i + 1) (by omega)]
    rfl
  · exact h (i - 1) (by omega)
theorem mir_of {p : Int} {n : Nat} {rs : List (List (Int × Int))} {vs : List (List Int)} {L : List (Nat × List Int)} {fs : List Nat} (p1 : 1 < p) (inv : ∀ u, 0 < u → u < p → ∃ c, c * u % p = 1) (hL : PL p (2 * n) (crsF p rs) L) (hf : ∀ f, f ∈ fs ↔ f < 2 * n ∧ f ∉ L.map (·.1)) (ndf : fs.Nodup)
    (vl : vs.length = fs.length) (hv : ∀ (i f : Nat) (v : List Int), fs[i]? = some f → vs[i]? = some v → Eqv p (vec v) (frV f (vecs L)) ∧ v.length = 2 * n ∧ Rg p v) : Mir p n rs vs := by
  have hf' : ∀ f, f ∈ fs ↔ f < 2 * n ∧ ∀ x ∈ vecs L, x.1 ≠ f := fun f => by
    rw [hf f]
    constructor
    · rintro ⟨a, b⟩
      refine ⟨a, fun x hx e => b ?_⟩
      obtain ⟨y, hy, rfl⟩ := mem_vecs.mp hx
      exact List.mem_map.mpr ⟨y, hy, e⟩
    · rintro ⟨a, b⟩
      refine ⟨a, fun m => ?_⟩
      obtain ⟨y, hy, e⟩ := List.mem_map.mp m
      exact b (y.1, vec y.2) (mem_vecs.mpr ⟨y, hy, rfl⟩) e
  have plc : ∀ x ∈ vecs L, x.1 < 2 * n := fun x hx => by
    obtain ⟨y, hy, rfl⟩ := mem_vecs.mp hx
    exact hL.plc y hy
  have supL : ∀ x ∈ vecs L, Sup (2 * n) x.2 := fun x hx => by
    obtain ⟨y, hy, rfl⟩ := mem_vecs.mp hx
    exact sup_vec (hL.len y hy)
  have same : ∀ u, Lot p (spn vs) u ↔ Lot p (fun v => ∃ f ∈ fs, v = frV f (vecs L)) u := fun u => by
    refine lot_both (fun v hv' => ?_) (fun v hv' => ?_) u
    · obtain ⟨f, hf1, rfl⟩ := hv'
      obtain ⟨i, hi, rfl⟩ := List.mem_iff_getElem.mp hf1
      have hi2 : i < fs.length := by omega
      exact ⟨_, ⟨fs[i], List.getElem_mem hi2, rfl⟩, ((hv i _ _ (List.getElem?_eq_getElem hi2) (List.getElem?_eq_getElem hi)).1).symm⟩
    · obtain ⟨f, hf1, rfl⟩ := hv'
      obtain ⟨i, hi, rfl⟩ := List.mem_iff_getElem.mp hf1
      have hi2 : i < vs.length := by omega
      exact ⟨_, ⟨vs[i], List.getElem_mem hi2, rfl⟩, (hv i _ _ (List.getElem?_eq_getElem hi) (List.getElem?_eq_getElem hi2)).1⟩
  refine ⟨fun w sw => ?_, fun w sw h => ?_, fun K M hK hM => ?_⟩
  · rw [same w, fr_ker hL.leads hL.ndv plc hf' ndf sw]
    constructor
    · intro h r hr
      refine dot_lotL (R := rowsOf (vecs L)) ((hL.lot _).mpr ((crs_spn _).mpr (Lot.of ⟨vec (flatR r), ⟨flatR r, List.mem_map.mpr ⟨r, hr, rfl⟩, rfl⟩, rfl⟩))) fun v hv' => ?_
      obtain ⟨x, hx, rfl⟩ := hv'
      exact h x hx
    · intro h x hx
      refine dot_lotL (R := crsR (spn (rs.map flatR))) ((crs_spn _).mp ((hL.lot _).mp (Lot.of ⟨x, hx, rfl⟩))) fun v hv' => ?_
      obtain ⟨w', ⟨f, hf1, rfl⟩, rfl⟩ := hv'
      obtain ⟨r, hr, rfl⟩ := List.mem_map.mp hf1
      exact h r hr
  · have a := fr_back (u := crs w) hL.leads hL.ndv plc hf' supL (sup_crs sw) fun f hf1 => by
      obtain ⟨i, hi, rfl⟩ := List.mem_iff_getElem.mp hf1
      have hi2 : i < vs.length := by omega
      exact (dot_eqv _ Eqv.refl (hv i _ _ (List.getElem?_eq_getElem hi) (List.getElem?_eq_getElem hi2)).1).symm.trans (h _ (List.getElem_mem hi2))
    exact crs_back ((crs_spn _).mp ((hL.lot _).mp a))
  · have lk := crs_count p1 inv hK hL
    have fresh : ∀ i, i ≤ vs.length → Fresh p (vs.take i) := by
      intro i
      induction i with
      | zero => intro _; exact Fresh.nil
      | succ i ih =>
        intro hi
        have hi' : i < vs.length := by omega
        have hi2 : i < fs.length := by omega
        rw [← List.take_append_getElem hi']
        have mi := (hf' _).mp (List.getElem_mem hi2)
        refine .snoc fs[i] (ih (by omega)) (fun g hg => ?_) ?_
        · obtain ⟨j, hj, rfl⟩ := List.mem_iff_getElem.mp hg
          rw [List.length_take] at hj
          have hj1 : j < vs.length := by omega
          have hj2 : j < fs.length := by omega
          rw [List.getElem_take]
          refine ((hv j _ _ (List.getElem?_eq_getElem hj2) (List.getElem?_eq_getElem hj1)).1 _).trans ?_
          rw [fr_other mi.2 ((List.pairwise_iff_getElem.mp ndf) j i hj2 hi2 (by omega))]
          exact Cg.rfl'
        · intro z
          have a := ((hv i _ _ (List.getElem?_eq_getElem hi2) (List.getElem?_eq_getElem hi')).1 fs[i]).symm.trans z
          rw [fr_self mi.2] at a
          exact one_zero p1 a
    have fr := fresh vs.length (Nat.le_refl _)
    rw [List.take_length] at fr
    obtain ⟨N, hN, nl⟩ := fr.pl (n := 2 * n) p1 inv fun v hv' => by
      obtain ⟨i, hi, rfl⟩ := List.mem_iff_getElem.mp hv'
      have hi2 : i < fs.length := by omega
      exact (hv i _ _ (List.getElem?_eq_getElem hi2) (List.getElem?_eq_getElem hi)).2
    have lm := hM.len_eq p1 hN fun u => Iff.rfl
    -- free places and places of leads are all places
    have pm : (fs ++ L.map (·.1)).Perm (List.range (2 * n)) := by
      refine (List.perm_ext_iff_of_nodup ?_ List.nodup_range).mpr fun a => ?_
      · exact List.nodup_append.mpr ⟨ndf, hL.nd, fun a ha b hb e => ((hf a).mp ha).2 (by rw [e]; exact hb)⟩
      · rw [List.mem_append, List.mem_range]
        constructor
        · rintro (h | h)
          · exact ((hf a).mp h).1
          · obtain ⟨y, hy, rfl⟩ := List.mem_map.mp h
            exact hL.plc y hy
        · intro h
          by_cases m : a ∈ L.map (·.1)
          · exact .inr m
          · exact .inl ((hf a).mpr ⟨h, m⟩)
    have le := pm.length_eq
    rw [List.length_append, List.length_map, List.length_range] at le
    omega
/-- the mirror of the mirror is the lot -/
theorem mir_mir {p : Int} {n : Nat} {rs ss : List (List (Int × Int))} {vs ws : List (List Int)} (h1 : Mir p n rs vs) (h2 : Mir p n ss ws) (e : ∀ u, Lot p (spn (ss.map flatR)) u ↔ Lot p (spn vs) u) (hr : ∀ r ∈ rs, r.length = n) (hs : ∀ r ∈ ss, r.length = n) (hw : ∀ w ∈ ws, w.length = 2 * n) (u : Vc) : Lot p (spn ws) u ↔ Lot p (spn (rs.map flatR)) u := by
  have key : ∀ w, Sup (2 * n) w → (Lot p (spn ws) w ↔ Lot p (spn (rs.map flatR)) w) := fun w sw => by
    rw [h2.ker w sw]
    have neg : ∀ a : Int, Cg p a 0 → Cg p (-a) 0 := fun a k => by
      have b := (Cg.rfl' (p := p) (a := 0)).sub k
      have e2 : (0 : Int) - a = -a := by omega
      rw [e2] at b
      exact b
    constructor
    · intro h
      refine h1.bi w sw fun v hv => ?_
      refine dot_lotR ((e (vec v)).mpr (Lot.of ⟨v, hv, rfl⟩)) fun x hx => ?_
      obtain ⟨f, hf, rfl⟩ := hx
      obtain ⟨r, hr', rfl⟩ := List.mem_map.mp hf
      rw [dot_crs]
      exact neg _ (h r hr')
    · intro h r hr'
      rw [dot_crs]
      refine neg _ ?_
      have sr : Sup (2 * n) (vec (flatR r)) := sup_vec (by rw [flat_len, hs r hr'])
      have k := (h1.ker (vec (flatR r)) sr).mp ((e _).mp (Lot.of ⟨flatR r, List.mem_map.mpr ⟨r, hr', rfl⟩, rfl⟩))
      refine dot_lotL (R := crsR (spn (rs.map flatR))) (crs_lot h) fun x hx => ?_
      obtain ⟨y, ⟨f, hf, rfl⟩, rfl⟩ := hx
      obtain ⟨r2, hr2, rfl⟩ := List.mem_map.mp hf
      exact k r2 hr2
  refine Lot.iff (fun v hv => ?_) (fun v hv => ?_) u
  · obtain ⟨f, hf, rfl⟩ := hv
    exact (key _ (sup_vec (hw f hf))).mp (Lot.of ⟨f, hf, rfl⟩)
  · obtain ⟨f, hf, rfl⟩ := hv
    obtain ⟨r, hr', rfl⟩ := List.mem_map.mp hf
    exact (key _ (sup_vec (by rw [flat_len, hr r hr']))).mpr (Lot.of ⟨_, hf, rfl⟩)
end Lin
set_option linter.all false
/-! zip of two or three things, each a list or a tuple, of one length -/
namespace Zm
open PySem PySem.Spec PyProof.Rows L2
inductive Kd where
  | l
  | t
def Sq (k : Kd) (K : PySem.W.Frag) (H : Hp) (a : Addr) (xs : List V) : Prop := match k with
  | .l => SqL K H a xs
  | .t => SqT K H a xs
def Itr (k : Kd) (h : Heap) (it a : Addr) (i : Nat) : Prop := match k with
  | .l => h.IsListIter it a i
  | .t => h.IsTupleIter it a i
def Sqh (k : Kd) (h : Heap) (a : Addr) (its : Array Value) : Prop := match k with
  | .l => h.IsList a its
  | .t => h.IsTuple a its
theorem drw {pr : Program} {w : World} {A : Around} (k : Kd) (hh : A.handled = none) {it a : Addr} (ne : a ≠ it) (its : Array Value) :
    Draws pr w A it [it, a] its.size (fun i v => its[i]? = some v) (fun i h => Itr k h it a i ∧ Sqh k h a its) := match k with
  | .l => Draws.list hh it a ne its
  | .t => Draws.tuple hh it a ne its
theorem bgn (k : Kd) (a : Addr) (its : Array Value) : ∃ o, Begins (.ref a) o (fun h => Sqh k h a its) ∧ ∀ (h : Heap) (it : Addr), h.get? it = some o → Itr k h it a 0 := match k with
  | .l => ⟨_, begins_list a its, fun h it e => ⟨_, e, rfl, rfl⟩⟩
  | .t => ⟨_, begins_tuple a its, fun h it e => ⟨_, e, rfl, rfl⟩⟩
section
variable {X : Cx} {pn : List (Addr × Obj)} {σ : L2.St} {H : Hp} {s : Shared} {a : Addr} {xs ys : List V} {k : Kd}
theorem at_ (I : Inv X pn σ H s) (q : Sq k X.K H a xs) : ∃ its : List Value, Vals xs its ∧ Sqh k s.heap a its.toArray ∧ a < s.heap.objs.size := by
  cases k with
  | l =>
    obtain ⟨its, r, p, _⟩ := I.list q
    exact ⟨its, r, p.isList, p.lt⟩
  | t =>
    obtain ⟨its, r, p, _⟩ := I.tuple q
    obtain ⟨o, ho, _⟩ := id p
    exact ⟨its, r, p, Heap.lt_size ho⟩
theorem inj (I : Inv X pn σ H s) (q : Sq k X.K H a xs) (q' : Sq k X.K H a ys) : xs = ys := by
  cases k with
  | l => exact I.list_inj q q'
  | t => exact I.tuple_inj q q'
theorem itr_keep {h h' : Heap} {it : Addr} {i : Nat} (x : Itr k h it a i) (kp : ∀ o, h.get? it = some o → h'.get? it = some o) : Itr k h' it a i := by
  cases k with
  | l => exact x.at kp
  | t => exact x.at kp
theorem itr_obj {h : Heap} {it : Addr} {i : Nat} (x : Itr k h it a i) : ∃ o, h.get? it = some o ∧ ∀ v, o.data ≠ .cell v := by
  cases k with
  | l =>
    obtain ⟨o, e, _, d⟩ := x
    exact ⟨o, e, fun v q => by rw [d] at q; cases q⟩
  | t =>
    obtain ⟨o, e, _, d⟩ := x
    exact ⟨o, e, fun v q => by rw [d] at q; cases q⟩
end
/-! ### two -/
def It2 (j k : Kd) (K : PySem.W.Frag) (a b : Addr) : It where
  go i H := ∃ (xs ys : List V) (x y : V), Sq j K H a xs ∧ Sq k K H b ys ∧ xs[i]? = some x ∧ ys[i]? = some y
  yld i H v H' := ∃ T x y, v = .ref T ∧ H T = none ∧ H' = upd H T (.tup [x, y]) ∧ (∀ xs, Sq j K H a xs → xs[i]? = some x) ∧ ∀ ys, Sq k K H b ys → ys[i]? = some y
  stop i H := ∃ xs ys : List V, Sq j K H a xs ∧ Sq k K H b ys ∧ xs.length = i ∧ ys.length = i
theorem mem5 {z a b c d x : Addr} (h : x ∈ [z, a, b, c, d]) : x = z ∨ x = a ∨ x = b ∨ x = c ∨ x = d := by simpa using h
theorem trn2 {P : Program} {w : World} {K : PySem.W.Frag} {j k : Kd} {es : List Expr} {kk : Nat} {tp : Pos} {a b z TI TO i1 i2 : Addr} (S : ZipSep2 z TI TO i1 i2 [i1, a] [i2, b]) (n1 : a ≠ i1) (n2 : b ≠ i2) :
    Turn P w K (.Tuple es kk tp) (It2 j k K a b) [z, TI, TO, i1, i2] z (fun i h => IsZip h z TI TO .none ∧ IsTupOf2 h TI (.ref i1) (.ref i2) ∧ (∃ x y, IsTupOf2 h TO x y) ∧ Itr j h i1 a i ∧ Itr k h i2 b i) where
  mem := by simp
  obj := fun i h st c hc => by
    obtain ⟨hz, hTI, ⟨x, y, hTO⟩, h1, h2⟩ := st
    rcases mem5 hc with rfl | rfl | rfl | rfl | rfl
    · exact ⟨_, hz, fun v e => nomatch e⟩
    · exact ⟨_, hTI, fun v e => nomatch e⟩
    · exact ⟨_, hTO, fun v e => nomatch e⟩
    · exact itr_obj h1
    · exact itr_obj h2
  keep := fun i h h' st kp => by
    obtain ⟨hz, hTI, ⟨x, y, hTO⟩, h1, h2⟩ := st
    exact ⟨kp z (by simp) _ hz, kp TI (by simp) _ hTI, ⟨x, y, kp TO (by simp) _ hTO⟩, itr_keep h1 fun o e => kp i1 (by simp) o e, itr_keep h2 fun o e => kp i2 (by simp) o e⟩
  item := by
    intro X eP ew eK calm i pn s σ H E I hf st gg
    subst eP ew eK
    obtain ⟨hz, hTI, hTO, h1, h2⟩ := st
    obtain ⟨xs, ys, x, y, qx, qy, hx, hy⟩ := gg
    obtain ⟨us, rv, p1, _⟩ := at_ I qx
    obtain ⟨vs, rv2, p2, _⟩ := at_ I qy
    have hh : X.A.in1.handled = none := I.ok.hd calm
    have l1 : i < us.toArray.size := by
      have := (List.getElem?_eq_some_iff.mp hx).1
      rw [List.size_toArray, ← rv.length]
      exact this
    have l2 : i < vs.toArray.size := by
      have := (List.getElem?_eq_some_iff.mp hy).1
      rw [List.size_toArray, ← rv2.length]
      exact this
    refine (GoesN.zip2 S (drw j hh n1 us.toArray) (drw k hh n2 vs.toArray)).goes i s (fun u s2 => ∃ x H', Inv X pn σ H' s2 ∧ RelV x u ∧ (It2 j k X.K a b).yld i H x H' ∧ _ ∧ ∀ c ∈ _, H' c = none) E (by omega) ⟨hz, hTI, hTO, ⟨h1, p1⟩, h2, p2⟩ fun v h' tk Y st' kp _ => ?_
    obtain ⟨T, u, u2, rfl, le, hu, hu2, hT⟩ := Y
    obtain ⟨hz', hTI', hTO', ⟨h1', _⟩, h2', _⟩ := st'
    obtain ⟨w1, e1, r1⟩ := rv.get hx
    obtain ⟨w2, e2, r2⟩ := rv2.get hy
    have c1 : w1 = u := by
      have z1 : us[i]? = some u := by simpa using hu
      rw [e1] at z1
      exact Option.some.inj z1
    have c2 : w2 = u2 := by
      have z2 : vs[i]? = some u2 := by simpa using hu2
      rw [e2] at z2
      exact Option.some.inj z2
    subst c1 c2
    have fresh : H T = none := I.hok.fresh le
    have new : ObjOk X.prog X.w (upd H T (.tup [x, y])) h' T (.tup [x, y]) := ⟨by show 2 ≤ sizeLine; decide, [w1, w2], .cons r1 (.cons r2 .nil), hT⟩
    have I1 := I.turnedNew (t' := tk) (ch := [z, TI, TO, i1, i2]) (fun c o n e => kp c o (fun m => n (by
      have m' : c = z ∨ c = TO ∨ c = i1 ∨ c = i2 := by simpa using m
      rcases m' with q | q | q | q <;> (rw [q]; simp))) e) hf le new
    refine ⟨.ref T, _, I1, rfl, ⟨T, x, y, rfl, fresh, rfl, fun l hl => by rw [inj I hl qx]; exact hx, fun l hl => by rw [inj I hl qy]; exact hy⟩, ⟨hz', hTI', hTO', h1', h2'⟩, fun c hc => ?_⟩
    have lt : c < s.heap.objs.size := by
      rcases mem5 hc with rfl | rfl | rfl | rfl | rfl
      · exact Heap.lt_size hz
      · exact Heap.lt_size hTI
      · obtain ⟨_, _, e⟩ := hTO
        exact Heap.lt_size e
      · obtain ⟨_, e, _⟩ := itr_obj h1
        exact Heap.lt_size e
      · obtain ⟨_, e, _⟩ := itr_obj h2
        exact Heap.lt_size e
    rw [upd_ne (Nat.ne_of_lt (Nat.lt_of_lt_of_le lt le))]
    exact (hf c hc).1
  done := by
    intro X eP ew eK calm i pn s σ H E I hf st gg
    subst eP ew eK
    obtain ⟨hz, hTI, hTO, h1, h2⟩ := st
    obtain ⟨xs, ys, qx, qy, hx, hy⟩ := gg
    obtain ⟨us, rv, p1, _⟩ := at_ I qx
    obtain ⟨vs, rv2, p2, _⟩ := at_ I qy
    have hh : X.A.in1.handled = none := I.ok.hd calm
    have e : i = min us.toArray.size vs.toArray.size := by
      have l1 := rv.length
      have l2 := rv2.length
      simp
      omega
    subst e
    exact (GoesN.zip2 (elts := es) (x1 := kk) (pos := tp) S (drw j hh n1 us.toArray) (drw k hh n2 vs.toArray)).stops s (fun s1 => Inv X pn σ H s1) E ⟨hz, hTI, hTO, ⟨h1, p1⟩, h2, p2⟩ fun h' tk kp _ => I.turnedL (t' := tk) (ch := [z, TI, TO, i1, i2]) (fun c o n e => kp c o (fun m => n (by
      have m' : c = z ∨ c = TO ∨ c = i1 ∨ c = i2 := by simpa using m
      rcases m' with q | q | q | q <;> (rw [q]; simp))) e) hf
  self := fun A i s Q E st h => wpAny_pyIter_zip st.1 h
def iZip2 (j k : Kd) (K : PySem.W.Frag) (ta : TA) : TI := fun σ H R => ta σ H fun vs H1 => ∃ a b xs ys, vs = [.ref a, .ref b] ∧ Sq j K H1 a xs ∧ Sq k K H1 b ys ∧ R (It2 j k K a b) H1
theorem pi_zip2 {X : Cx} {e e2 : Expr} {ta : TA} {p pos tp : Pos} {es : List Expr} {kk : Nat} (j k : Kd) (hg : Gl X "zip") (hm : X.mg "zip" = none) (ha : PA X [e, e2] ta)
    (hs : starEach [e, e2] X.env = (false, eval e X.env) :: starEach [e2] X.env := by rfl) (hpl : (backTo pos (starEach [e2] X.env)).any (·.1) = false := by rfl) :
    PI X (.Tuple es kk tp) (.Call (.Name "zip" p) [e, e2] [] pos) (iZip2 j k X.K ta) := by
  refine ⟨fun pn s σ H R I h => ?_⟩
  refine Call_ (ld_blt I hg hm PyProof.Rows.boot_zip (PyProof.Rows.callWith_type1 (thn (ha.run pos pn s σ H _ I h) fun us s1 ⟨vs, H1, I1, r1, q1⟩ => ?_) hs hpl))
  obtain ⟨a, b, xs, ys, ex, qx, qy, q⟩ := q1
  subst ex
  cases r1 with
  | cons r rr =>
   cases rr with
   | cons r' rr =>
    cases rr
    cases r
    cases r'
    obtain ⟨us, rv, p1, la⟩ := at_ I1 qx
    obtain ⟨vs, rv2, p2, lb⟩ := at_ I1 qy
    obtain ⟨o1, B1, f1⟩ := bgn j a us.toArray
    obtain ⟨o2, B2, f2⟩ := bgn k b vs.toArray
    refine zip_begins2 B1 B2 p1 p2 fun h' hz hTI hTO g1 g2 hsz kp => wpAny_pyIter_zip hz ?_
    have S := zip_sep2 (N := s1.heap.objs.size) (fp1 := [a]) (fp2 := [b]) (fun c hc => by rw [List.mem_singleton.mp hc]; exact la) (fun c hc => by rw [List.mem_singleton.mp hc]; exact lb)
    have ne1 : a ≠ s1.heap.objs.size := Nat.ne_of_lt la
    have ne2 : b ≠ s1.heap.objs.size + 1 := Nat.ne_of_lt (Nat.lt_succ_of_lt lb)
    refine ⟨_, _, _, _, H1, rfl, I1.kept (t' := s1.toks) kp, trn2 (j := j) (k := k) S ne1 ne2, ⟨hz, hTI, ⟨_, _, hTO⟩, f1 _ _ g1, f2 _ _ g2⟩, fun c hc => ?_, q⟩
    have le : s1.heap.objs.size ≤ c := by
      rcases mem5 hc with rfl | rfl | rfl | rfl | rfl
      · exact Nat.le_add_right _ _
      · exact Nat.le_add_right _ _
      · exact Nat.le_add_right _ _
      · exact Nat.le_refl _
      · exact Nat.le_add_right _ _
    exact I1.fpOk le (I1.hok.fresh le)
def iZipK (K : PySem.W.Frag) (ta : TA) : TI := fun σ H R => ta σ H fun vs H1 => ∃ j k a b xs ys, vs = [.ref a, .ref b] ∧ Sq j K H1 a xs ∧ Sq k K H1 b ys ∧ R (It2 j k K a b) H1
theorem pi_zipK {X : Cx} {e e2 : Expr} {ta : TA} {p pos tp : Pos} {es : List Expr} {kk : Nat} (hg : Gl X "zip") (hm : X.mg "zip" = none) (ha : PA X [e, e2] ta)
    (hs : starEach [e, e2] X.env = (false, eval e X.env) :: starEach [e2] X.env := by rfl) (hpl : (backTo pos (starEach [e2] X.env)).any (·.1) = false := by rfl) :
    PI X (.Tuple es kk tp) (.Call (.Name "zip" p) [e, e2] [] pos) (iZipK X.K ta) := by
  refine ⟨fun pn s σ H R I h => ?_⟩
  refine Call_ (ld_blt I hg hm PyProof.Rows.boot_zip (PyProof.Rows.callWith_type1 (thn (ha.run pos pn s σ H _ I h) fun us s1 ⟨vs, H1, I1, r1, q1⟩ => ?_) hs hpl))
  obtain ⟨j, k, a, b, xs, ys, ex, qx, qy, q⟩ := q1
  subst ex
  cases r1 with
  | cons r rr =>
   cases rr with
   | cons r' rr =>
    cases rr
    cases r
    cases r'
    obtain ⟨us, rv, p1, la⟩ := at_ I1 qx
    obtain ⟨vs, rv2, p2, lb⟩ := at_ I1 qy
    obtain ⟨o1, B1, f1⟩ := bgn j a us.toArray
    obtain ⟨o2, B2, f2⟩ := bgn k b vs.toArray
    refine zip_begins2 B1 B2 p1 p2 fun h' hz hTI hTO g1 g2 hsz kp => wpAny_pyIter_zip hz ?_
    have S := zip_sep2 (N := s1.heap.objs.size) (fp1 := [a]) (fp2 := [b]) (fun c hc => by rw [List.mem_singleton.mp hc]; exact la) (fun c hc => by rw [List.mem_singleton.mp hc]; exact lb)
    have ne1 : a ≠ s1.heap.objs.size := Nat.ne_of_lt la
    have ne2 : b ≠ s1.heap.objs.size + 1 := Nat.ne_of_lt (Nat.lt_succ_of_lt lb)
    refine ⟨_, _, _, _, H1, rfl, I1.kept (t' := s1.toks) kp, trn2 (j := j) (k := k) S ne1 ne2, ⟨hz, hTI, ⟨_, _, hTO⟩, f1 _ _ g1, f2 _ _ g2⟩, fun c hc => ?_, q⟩
    have le : s1.heap.objs.size ≤ c := by
      rcases mem5 hc with rfl | rfl | rfl | rfl | rfl
      · exact Nat.le_add_right _ _
      · exact Nat.le_add_right _ _
      · exact Nat.le_add_right _ _
      · exact Nat.le_refl _
      · exact Nat.le_add_right _ _
    exact I1.fpOk le (I1.hok.fresh le)
/-! ### walks -/
section
variable {K : PySem.W.Frag} {a b : Addr} {xs ys : List V} {j k : Kd}
theorem walk2 (hl : xs.length = ys.length) : Walk (It2 j k K a b) xs.length (fun H => Sq j K H a xs ∧ Sq k K H b ys) (YPair (fun i => xs[i]?) (fun i => ys[i]?)) := by
  refine ⟨fun i _ hi q => ?_, fun _ q => ⟨xs, ys, q.1, q.2, rfl, hl.symm⟩, fun i H v H' _ q y => ?_⟩
  · have h2 : i < ys.length := by omega
    exact ⟨xs, ys, xs[i], ys[i], q.1, q.2, by simp [hi], by simp [h2]⟩
  · obtain ⟨T, x, z, h1, h2, h3, h4, h5⟩ := y
    exact ⟨T, x, z, h1, h2, h3, h4 xs q.1, h5 ys q.2⟩
/-- a list or a tuple, item by item -/
def Itq (k : Kd) (K : PySem.W.Frag) (a : Addr) : It := match k with
  | .l => Itl K a
  | .t => Itt K a
theorem walkq : Walk (Itq k K a) xs.length (fun H => Sq k K H a xs) (YAt xs) := match k with
  | .l => walk_list
  | .t => walk_tup
end
def iKd (K : PySem.W.Frag) (te : TE) : TI := fun σ H R => te σ H fun x H1 => ∃ a k xs, x = .ref a ∧ Sq k K H1 a xs ∧ R (Itq k K a) H1
theorem pi_kd {X : Cx} {tg e : Expr} {te : TE} (he : PE X e te) : PI X tg e (iKd X.K te) := by
  refine ⟨fun pn s σ H R I h => ?_⟩
  refine thn (he.run pn s σ H _ I h) fun u s1 ⟨x, H1, I1, r, a, k, xs, ex, q, R1⟩ => ?_
  subst ex
  obtain rfl : u = Value.ref a := r
  obtain ⟨us, rv, p, la⟩ := at_ I1 q
  obtain ⟨o, B, f⟩ := bgn k a us.toArray
  refine B.iter _ _ _ _ s1 _ p ?_
  have up : ∀ c ob, s1.heap.get? c = some ob → (s1.heap.push o).get? c = some ob := fun c ob e => Heap.get?_push_of_some _ e
  have fp : ∀ c ∈ [s1.heap.objs.size], FpOk X pn H1 c := fun c hc => by
    rw [List.mem_singleton.mp hc]
    exact I1.fpOk (Nat.le_refl _) (I1.hok.fresh (Nat.le_refl _))
  have g := f _ _ (Heap.get?_push_size s1.heap B.free)
  cases k with
  | l => exact ⟨_, _, _, _, H1, rfl, I1.kept (t' := s1.toks) up, turn_list a _, g, fp, R1⟩
  | t => exact ⟨_, _, _, _, H1, rfl, I1.kept (t' := s1.toks) up, turn_tuple a _, g, fp, R1⟩
section
variable {J : It} {n : Nat} {G : Hp → Prop} {Y : Nat → Hp → V → Hp → Prop}
/-- a dict comprehension over a walk -/
theorem dc_it (w : Walk J n G Y) {g : TG} {tt : TT} {tk tv : TE} {vs : List Nat} {σ : L2.St} {H1 : Hp} {D : Addr} {Qd : Hp → Prop} (Pv : Nat → Hp → Prop) (h0 : Pv 0 (upd H1 D (.dK []))) (hG : ∀ i H, i ≤ n → Pv i H → G H)
    (hs : ∀ i x H H', i < n → Pv i H → Y i H x H' → g x (wipe σ vs) H' fun σ2 H2 => wipe σ2 vs = wipe σ vs ∧ tt σ2 H2 fun b H3 =>
      if b = true then tk σ2 H3 fun y H4 => tv σ2 H4 fun z H5 => ∃ kvs k, y = kV k ∧ H5 D = some (.dK kvs) ∧ kvs.length < sizeLine ∧ Pv (i + 1) (upd H5 D (.dK (putK kvs k z))) else Pv (i + 1) H3) (hd : ∀ H, Pv n H → Qd H) :
    ∃ W : Nat → Nat → Hp → Prop, (∃ m, W 0 m (upd H1 D (.dK []))) ∧ ∀ i m H, W i m H →
      (J.stop i H ∧ Qd H) ∨ (J.go i H ∧ ∃ Nx : Hp → Prop, (∀ H', Nx H' → ∃ m', m' < m ∧ W (i + 1) m' H') ∧ ∀ x H', J.yld i H x H' → g x (wipe σ vs) H' fun σ2 H2 => wipe σ2 vs = wipe σ vs ∧ tt σ2 H2 fun b H3 =>
        if b = true then tk σ2 H3 fun y H4 => tv σ2 H4 fun z H5 => ∃ kvs k, y = kV k ∧ H5 D = some (.dK kvs) ∧ kvs.length < sizeLine ∧ Nx (upd H5 D (.dK (putK kvs k z))) else Nx H3) := by
  refine ⟨fun i m H => m + i = n ∧ Pv i H, ⟨n, rfl, h0⟩, ?_⟩
  rintro i m H ⟨e, p⟩
  have q := hG i H (by omega) p
  cases m with
  | zero =>
    have e' : i = n := by omega
    subst e'
    exact .inl ⟨w.stops H q, hd H p⟩
  | succ m => exact .inr ⟨w.goes i H (by omega) q, Pv (i + 1), fun H' p' => ⟨m, by omega, by omega, p'⟩, fun x H' y => hs i x H H' (by omega) p (w.yields i H x H' (by omega) q y)⟩
end
end Zm
set_option linter.all false
/-! list(zip(a, b)) of two lists; xs[::2], xs[1::2] of a list -/
namespace Lz
open PySem PySem.Spec PyProof.Rows L2
/-! ### every second item -/
def ev2 {α : Type} : List α → List α
  | [] => []
  | [a] => [a]
  | a :: _ :: r => a :: ev2 r
theorem ev2_get {α : Type} : ∀ (xs : List α) (k : Nat), (ev2 xs)[k]? = xs[2 * k]?
  | [], k => by simp [ev2]
  | [a], 0 => rfl
  | [a], k + 1 => by
    have e : 2 * (k + 1) = 2 * k + 1 + 1 := by omega
    simp [ev2, e]
  | a :: b :: r, 0 => rfl
  | a :: b :: r, k + 1 => by
    have e : 2 * (k + 1) = 2 * k + 1 + 1 := by omega
    show (ev2 r)[k]? = _
    rw [ev2_get r k, e]
    rfl
theorem ev2_len {α : Type} : ∀ xs : List α, (ev2 xs).length = (xs.length + 1) / 2
  | [] => by simp [ev2]
  | [_] => by simp [ev2]
  | _ :: _ :: r => by
    show (ev2 r).length + 1 = (r.length + 1 + 1 + 1) / 2
    rw [ev2_len r]
    omega
theorem ev2_map {α β : Type} (f : α → β) : ∀ xs : List α, ev2 (xs.map f) = (ev2 xs).map f
  | [] => rfl
  | [_] => rfl
  | a :: b :: r => by
    show f a :: ev2 (r.map f) = f a :: (ev2 r).map f
    rw [ev2_map f r]
theorem vals_ev2 : ∀ {xs : List V} {us : List Value}, Vals xs us → Vals (ev2 xs) (ev2 us)
  | _, _, .nil => .nil
  | _, _, .cons r .nil => .cons r .nil
  | _, _, .cons r (.cons _ rr) => .cons r (vals_ev2 rr)
theorem fm_get {α : Type} {f : Nat → Nat} {us ws : List α} {m : Nat} (hm : ws.length = m) (h : ∀ k, k < m → ws[k]? = us[f k]?) : ((List.range m).map f).filterMap (us[·]?) = ws := by
  induction m generalizing ws with
  | zero =>
    cases ws with
    | nil => rfl
    | cons _ _ => simp at hm
  | succ m ih =>
    have e : ws = ws.take m ++ [ws[m]'(by omega)] := by
      rw [List.take_append_getElem]
      exact (List.take_of_length_le (by omega)).symm
    have a := ih (ws := ws.take m) (by rw [List.length_take]; omega) fun k hk => by rw [List.getElem?_take, if_pos hk]; exact h k (by omega)
    have b := h m (by omega)
    rw [List.range_succ, List.map_append, List.filterMap_append, a]
    rw [List.getElem?_eq_getElem (by omega)] at b
    conv => rhs; rw [e]
    congr 1
    show [f m].filterMap (us[·]?) = _
    rw [List.filterMap_cons, ← b]
    rfl
theorem pick0 (us : List Value) : slicePick us.toArray none none (some 2) = (ev2 us).toArray := by
  unfold slicePick
  congr 1
  have e : sliceBounds none none (some 2) us.toArray.size = (0, (us.length : Int), 2) := by simp [sliceBounds]
  rw [e]
  show (sliceRange 0 (us.length : Int) 2).filterMap (us.toArray[·]?) = ev2 us
  have e2 : sliceRange 0 (us.length : Int) 2 = (List.range ((us.length + 1) / 2)).map fun k => 2 * k := by
    unfold sliceRange
    by_cases h : us.length = 0
    · rw [h]
      rfl
    · have z : ((us.length : Int) - 0 + 2 - 1) / 2 = (((us.length + 1) / 2 : Nat) : Int) := by omega
      have hp : (2 : Int) > 0 := by decide
      have hl : (0 : Int) < (us.length : Int) := by omega
      simp only [hp, hl, if_true, z, Int.toNat_natCast]
      apply List.map_congr_left
      intro k _
      omega
  rw [e2]
  have g : (fun i : Nat => us.toArray[i]?) = fun i : Nat => us[i]? := by
    funext i
    simp
  rw [g]
  exact fm_get (ev2_len us) fun k _ => ev2_get us k
theorem pick1 (us : List Value) : slicePick us.toArray (some 1) none (some 2) = (ev2 (us.drop 1)).toArray := by
  unfold slicePick
  congr 1
  by_cases h : us.length = 0
  · have e : us = [] := List.length_eq_zero_iff.mp h
    subst e
    rfl
  · have e : sliceBounds (some 1) none (some 2) us.toArray.size = (1, (us.length : Int), 2) := by
      simp [sliceBounds]
      omega
    rw [e]
    show (sliceRange 1 (us.length : Int) 2).filterMap (us.toArray[·]?) = _
    have e2 : sliceRange 1 (us.length : Int) 2 = (List.range (us.length / 2)).map fun k => 1 + 2 * k := by
      unfold sliceRange
      by_cases h1 : us.length = 1
      · rw [h1]
        rfl
      · have z : ((us.length : Int) - 1 + 2 - 1) / 2 = ((us.length / 2 : Nat) : Int) := by omega
        have hp : (2 : Int) > 0 := by decide
        have hl : (1 : Int) < (us.length : Int) := by omega
        simp only [hp, hl, if_true, z, Int.toNat_natCast]
        apply List.map_congr_left
        intro k _
        omega
    rw [e2]
    have g : (fun i : Nat => us.toArray[i]?) = fun i : Nat => us[i]? := by
      funext i
      simp
    rw [g]
    refine fm_get (by rw [ev2_len, List.length_drop]; omega) fun k _ => ?_
    rw [ev2_get, List.getElem?_drop]
section
variable {X : Cx}
def tEv (K : PySem.W.Frag) (n : Nat) (te : TE) : TE := fun σ H Q => te σ H fun x H1 => ∃ a xs, x = .ref a ∧ SqL K H1 a xs ∧ ∀ p, H1 p = none → Q (.ref p) (upd H1 p (.lst (ev2 (xs.drop n))))
theorem pe_ev0 {e : Expr} {te : TE} {k : Nat} {p1 p3 pos : Pos} (he : PE X e te) : PE X (.Subscript e (.Slice none none (some (.Constant (.int 2) k p1)) p3) pos) (tEv X.K 0 te) := by
  refine ⟨fun pn s σ H Q I h => Subscript_ (thn (he.run pn s σ H _ I h) fun v s1 ⟨x, H1, I1, r1, a, xs, ex, hx, q⟩ => ?_)⟩
  subst ex
  cases r1
  have two : PO X (some (.Constant (.int 2) k p1)) (tPart (tC (.int 2))) := po_some pe_int
  refine wpAny_Slice (thn (po_none.run pn s1 σ H1 (fun o G => o = none ∧ G = H1) I1 ⟨rfl, rfl⟩) fun v1 s2 ⟨o1, G1, I2, part1, e1, g1⟩ => ?_)
  subst e1 g1
  refine thn (po_none.run pn s2 σ G1 (fun o G => o = none ∧ G = G1) I2 ⟨rfl, rfl⟩) fun v2 s3 ⟨o2, G2, I3, part2, e2, g2⟩ => ?_
  subst e2 g2
  refine thn (two.run pn s3 σ G2 (fun o G => o = some 2 ∧ G = G2) I3 ⟨2, rfl, rfl, rfl⟩) fun v3 s4 ⟨o3, G3, I4, part3, e3, g3⟩ => ?_
  subst e3 g3
  have I5 : L2.Inv X pn σ G3 { s4 with heap := s4.heap.push { cls := .type "slice", data := .fields #[v1, v2, v3] } } := I4.kept (t' := s4.toks) fun b ob z => Heap.get?_push_of_some _ z
  obtain ⟨its, r, ht, hz⟩ := I5.list hx
  have hlen := r.length
  show wpAny (model X.prog X.w) X.A (subscriptTail e _ (.ref a) (.ref s4.heap.objs.size)) (EP X pn σ Q) X.xe _
  refine tail_any (ops := [.ref a, .ref s4.heap.objs.size]) ht.isList.typeIs slot_list_getitem.lookup ?_ (by with_unfolding_all rfl)
  refine wpAny_getItem_list_slice ht.isList (Heap.IsSliceOf.new ..) part1 part2 part3 (by simp) ?_ (by rw [List.size_toArray]; omega)
  rw [pick0]
  refine ⟨.ref _, _, I5.laid (t' := s4.toks) (o := .lst (ev2 xs)) (fun b ob z => Heap.get?_push_of_some _ z) (Nat.le_refl _) ?_, rfl, q _ (I5.hok.fresh (Nat.le_refl _))⟩
  exact ⟨by rw [ev2_len]; omega, ev2 its, 0, vals_ev2 r, Heap.get?_push_size _ rfl⟩
theorem pe_ev1 {e : Expr} {te : TE} {k j : Nat} {p1 p2 p3 pos : Pos} (he : PE X e te) : PE X (.Subscript e (.Slice (some (.Constant (.int 1) j p2)) none (some (.Constant (.int 2) k p1)) p3) pos) (tEv X.K 1 te) := by
  refine ⟨fun pn s σ H Q I h => Subscript_ (thn (he.run pn s σ H _ I h) fun v s1 ⟨x, H1, I1, r1, a, xs, ex, hx, q⟩ => ?_)⟩
  subst ex
  cases r1
  have one : PO X (some (.Constant (.int 1) j p2)) (tPart (tC (.int 1))) := po_some pe_int
  have two : PO X (some (.Constant (.int 2) k p1)) (tPart (tC (.int 2))) := po_some pe_int
  refine wpAny_Slice (thn (one.run pn s1 σ H1 (fun o G => o = some 1 ∧ G = H1) I1 ⟨1, rfl, rfl, rfl⟩) fun v1 s2 ⟨o1, G1, I2, part1, e1, g1⟩ => ?_)
  subst e1 g1
  refine thn (po_none.run pn s2 σ G1 (fun o G => o = none ∧ G = G1) I2 ⟨rfl, rfl⟩) fun v2 s3 ⟨o2, G2, I3, part2, e2, g2⟩ => ?_
  subst e2 g2
  refine thn (two.run pn s3 σ G2 (fun o G => o = some 2 ∧ G = G2) I3 ⟨2, rfl, rfl, rfl⟩) fun v3 s4 ⟨o3, G3, I4, part3, e3, g3⟩ => ?_
  subst e3 g3
  have I5 : L2.Inv X pn σ G3 { s4 with heap := s4.heap.push { cls := .type "slice", data := .fields #[v1, v2, v3] } } := I4.kept (t' := s4.toks) fun b ob z => Heap.get?_push_of_some _ z
  obtain ⟨its, r, ht, hz⟩ := I5.list hx
  have hlen := r.length
  show wpAny (model X.prog X.w) X.A (subscriptTail e _ (.ref a) (.ref s4.heap.objs.size)) (EP X pn σ Q) X.xe _
  refine tail_any (ops := [.ref a, .ref s4.heap.objs.size]) ht.isList.typeIs slot_list_getitem.lookup ?_ (by with_unfolding_all rfl)
  refine wpAny_getItem_list_slice ht.isList (Heap.IsSliceOf.new ..) part1 part2 part3 (by simp) ?_ (by rw [List.size_toArray]; omega)
  rw [pick1]
  refine ⟨.ref _, _, I5.laid (t' := s4.toks) (o := .lst (ev2 (xs.drop 1))) (fun b ob z => Heap.get?_push_of_some _ z) (Nat.le_refl _) ?_, rfl, q _ (I5.hok.fresh (Nat.le_refl _))⟩
  exact ⟨by rw [ev2_len, List.length_drop]; omega, ev2 (its.drop 1), 0, vals_ev2 (r.drop 1), Heap.get?_push_size _ rfl⟩
end
/-! ### list(zip(a, b)) -/
structure Zst (h : Heap) (z TI TO i1 i2 : Addr) (i : Nat) : Prop where
  zp : (i = 0 ∧ IsZip h z TI TO .none) ∨ ∃ T f o, IsZipHeld h z TI TO T f ∧ h.get? T = some o ∧ T ≠ z ∧ T ≠ TO ∧ T ≠ i1 ∧ T ≠ i2
  ti : IsPair h TI (.ref i1) (.ref i2)
  to : ∃ a b, IsPair h TO a b
theorem Zst.lz {h : Heap} {z TI TO i1 i2 : Addr} {i : Nat} (Z : Zst h z TI TO i1 i2 i) : z < h.objs.size := by
  rcases Z.zp with ⟨_, e⟩ | ⟨_, _, _, e, _⟩
  · exact Heap.lt_size e
  · exact Heap.lt_size e
theorem Zst.ty {s : Shared} {z TI TO i1 i2 : Addr} {i : Nat} (Z : Zst s.heap z TI TO i1 i2 i) : s.TypeIs (.ref z) "zip" := by
  rcases Z.zp with ⟨_, e⟩ | ⟨_, _, _, e, _⟩
  · exact ⟨_, e, rfl⟩
  · exact ⟨_, e, rfl⟩
theorem zip_no_len : typeLookup (.type "zip") "__len__" = pure none := by rw [typeLookup_type, builtinLookup_eq_fast]; kernel_rfl
theorem zip_no_hint : typeLookup (.type "zip") "__length_hint__" = pure none := by rw [typeLookup_type, builtinLookup_eq_fast]; kernel_rfl
section
variable {pr : Program} {w : World} {A : Around} {E : Value → Shared → Prop} {s : Shared} {z TI TO i1 i2 l1 l2 : Addr} {i : Nat} {xs ys : Array Value}
theorem next_ {x y : Value} {Q : Option Value → Shared → Prop} (D : ZipApart z TI TO i1 i2 l1 l2) (Z : Zst s.heap z TI TO i1 i2 i)
    (h1 : s.heap.IsListIter i1 l1 i) (h2 : s.heap.IsListIter i2 l2 i) (hl1 : s.heap.IsList l1 xs) (hl2 : s.heap.IsList l2 ys) (hx : xs[i]? = some x) (hy : ys[i]? = some y)
    (hQ : ∀ h', Zst h' z TI TO i1 i2 (i + 1) → h'.IsListIter i1 l1 (i + 1) → h'.IsListIter i2 l2 (i + 1) → IsPair h' s.heap.objs.size x y → (∀ c o, c ≠ z → c ≠ TO → c ≠ i1 → c ≠ i2 → s.heap.get? c = some o → h'.get? c = some o) → Q (some (.ref s.heap.objs.size)) { s with heap := h' }) :
    wpAny (model pr w) A (pyNext (.ref z)) Q E s := by
  have lz := Z.lz
  obtain ⟨zp, hTI, a, b, hTO⟩ := Z
  have lT : TO < s.heap.objs.size := Heap.lt_size hTO
  have g1 : i1 < s.heap.objs.size := by obtain ⟨_, e, _⟩ := h1; exact Heap.lt_size e
  have g2 : i2 < s.heap.objs.size := by obtain ⟨_, e, _⟩ := h2; exact Heap.lt_size e
  rcases zp with ⟨_, hz⟩ | ⟨T, f, o, hz, hT, t1, t2, t3, t4⟩
  · refine wpAny_pyNext_zip_item D hz hTI hTO h1 h2 hl1 hl2 hx hy fun h' b1 b2 b3 b4 b5 _ b7 => hQ h' ⟨.inr ⟨_, false, _, b1, b5, Nat.ne_of_gt lz, Nat.ne_of_gt lT, Nat.ne_of_gt g1, Nat.ne_of_gt g2⟩, b7 _ _ D.TIz D.TITO D.TIi1 D.TIi2 hTI, _, _, b2⟩ b3 b4 b5 b7
  · exact wpAny_pyNext_zip_item_held D hz hT hTI h1 h2 hl1 hl2 hx hy fun h' b1 b3 b4 b5 _ b7 => hQ h' ⟨.inr ⟨T, true, o, b1, b7 _ _ t1 t3 t4 hT, t1, t2, t3, t4⟩, b7 _ _ D.TIz D.TIi1 D.TIi2 hTI, _, _, b7 _ _ D.TOz D.TOi1 D.TOi2 hTO⟩ b3 b4 b5 fun c o' c1 _ c3 c4 e => b7 c o' c1 c3 c4 e
theorem last_ {Q : Option Value → Shared → Prop} (hh : A.handled = none) (D : ZipApart z TI TO i1 i2 l1 l2) (Z : Zst s.heap z TI TO i1 i2 i)
    (h1 : s.heap.IsListIter i1 l1 i) (h2 : s.heap.IsListIter i2 l2 i) (hl1 : s.heap.IsList l1 xs) (hl2 : s.heap.IsList l2 ys) (hx : xs[i]? = none)
    (hQ : ∀ h', (∀ c o, c ≠ z → c ≠ TO → c ≠ i1 → c ≠ i2 → s.heap.get? c = some o → h'.get? c = some o) → Q none { s with heap := h' }) :
    wpAny (model pr w) A (pyNext (.ref z)) Q E s := by
  obtain ⟨zp, hTI, a, b, hTO⟩ := Z
  rcases zp with ⟨_, hz⟩ | ⟨T, f, o, hz, hT, t1, t2, t3, t4⟩
  · exact wpAny_pyNext_zip_end hh D hz hTI hTO h1 h2 hl1 hl2 (.inl hx) hQ
  · exact wpAny_pyNext_zip_end_held hh D hz hT hTI h1 h2 hl1 hl2 (.inl hx) fun h' b7 => hQ h' fun c o' c1 _ c3 c4 e => b7 c o' c1 c3 c4 e
end
/-- what stands behind list(zip(a, b)): new pairs, a new list of them -/
structure Zipped (H0 H : Hp) (S : Addr) (ts : List Addr) (xs ys : List V) : Prop where
  same : Same H0 H
  new : H0 S = none
  lst : H S = some (.lst (ts.map V.ref))
  len : ts.length = xs.length
  get : ∀ (j : Nat) (t : Addr) (x y : V), ts[j]? = some t → xs[j]? = some x → ys[j]? = some y → H t = some (.tup [x, y])
section
variable {X : Cx} {A : Around} {pn : List (Addr × Obj)} {σ : L2.St} {R : Result → Shared → Prop} {z TI TO i1 i2 a b S : Addr} {xs ys : List V} {H0 : Hp}
theorem loop (hh : A.in1.handled = none) (D : ZipApart z TI TO i1 i2 a b) (res : Value) (hle : xs.length = ys.length) (hn : xs.length < sizeLine) (qa : SqL X.K H0 a xs) (qb : SqL X.K H0 b ys) (h0S : H0 S = none) (nS : S ≠ z ∧ S ≠ TI ∧ S ≠ TO ∧ S ≠ i1 ∧ S ≠ i2) :
    ∀ (k i : Nat) (s : Shared) (H : Hp) (ts : List Addr), xs.length - i = k → i ≤ xs.length → L2.Inv X pn σ H s → (∀ c ∈ [z, TI, TO, i1, i2], FpOk X pn H c) → Zst s.heap z TI TO i1 i2 i → s.heap.IsListIter i1 a i → s.heap.IsListIter i2 b i →
      Same H0 H → H S = some (.lst (ts.map V.ref)) → ts.length = i → (∀ (j : Nat) (t : Addr) (x y : V), ts[j]? = some t → xs[j]? = some x → ys[j]? = some y → H t = some (.tup [x, y])) →
      (∀ (s' : Shared) (H' : Hp) (ts' : List Addr), L2.Inv X pn σ H' s' → Zipped H0 H' S ts' xs ys → R (.ok (.ret res)) s') →
      codeAny (model X.prog X.w) A (.builtin "list.extend.loop" ⟨[.ref S, .ref z, res], []⟩) R s := by
  intro k
  induction k with
  | zero =>
    intro i s H ts hk hi I hf Z h1 h2 sm hS ht hg fin
    have e : i = xs.length := by omega
    obtain ⟨us, rv, p1, _⟩ := I.list (sm.seq qa)
    obtain ⟨vs, rv2, p2, _⟩ := I.list (sm.seq qb)
    refine codeAny_builtin F.entry_extend_loop ?_
    rw [Around.under_plainId F.plain_extend_loop _]
    show wpAny _ A.in1 (pyNext (.ref z) >>= _) _ _ s
    refine wpAny_bind (last_ hh D Z h1 h2 p1.isList p2.isList (by
      have := rv.length
      simp
      omega) fun h' kp => ?_)
    refine wpAny_pure (fin _ H ts (I.turnedL (t' := s.toks) (ch := [z, TI, TO, i1, i2]) (fun c o n q => kp c o (fun e => n (by rw [e]; simp)) (fun e => n (by rw [e]; simp)) (fun e => n (by rw [e]; simp)) (fun e => n (by rw [e]; simp)) q) hf) ⟨sm, h0S, hS, by omega, hg⟩)
  | succ k ih =>
    intro i s H ts hk hi I hf Z h1 h2 sm hS ht hg fin
    have hlt : i < xs.length := by omega
    obtain ⟨us, rv, p1, _⟩ := I.list (sm.seq qa)
    obtain ⟨vs, rv2, p2, _⟩ := I.list (sm.seq qb)
    have hx : xs[i]? = some xs[i] := List.getElem?_eq_getElem hlt
    have hy : ys[i]? = some (ys[i]'(by omega)) := List.getElem?_eq_getElem (by omega)
    obtain ⟨u, eu, ru⟩ := rv.get hx
    obtain ⟨v, ev, rv'⟩ := rv2.get hy
    refine codeAny_builtin F.entry_extend_loop ?_
    rw [Around.under_plainId F.plain_extend_loop _]
    show wpAny _ A.in1 (pyNext (.ref z) >>= _) _ _ s
    refine wpAny_bind (next_ D Z h1 h2 p1.isList p2.isList (x := u) (y := v) (by simpa using eu) (by simpa using ev) fun h' Z' h1' h2' hT kp => ?_)
    have new : ObjOk X.prog X.w (upd H s.heap.objs.size (.tup [xs[i], ys[i]'(by omega)])) h' s.heap.objs.size (.tup [xs[i], ys[i]'(by omega)]) := ⟨by show 2 ≤ sizeLine; decide, [u, v], .cons ru (.cons rv' .nil), ⟨_, hT, rfl, _, rfl⟩⟩
    have I1 := I.turnedNew (t' := s.toks) (ch := [z, TI, TO, i1, i2]) (fun c o n q => kp c o (fun e => n (by rw [e]; simp)) (fun e => n (by rw [e]; simp)) (fun e => n (by rw [e]; simp)) (fun e => n (by rw [e]; simp)) q) hf (Nat.le_refl _) new
    have hT0 : H s.heap.objs.size = none := I.hok.fresh (Nat.le_refl _)
    have neS : S ≠ s.heap.objs.size := ne_of_none hS hT0
    have hS1 : upd H s.heap.objs.size (.tup [xs[i], ys[i]'(by omega)]) S = some (.lst (ts.map V.ref)) := by
      rw [upd_ne neS]
      exact hS
    obtain ⟨_, its, n, ri, eS⟩ := I1.hok S _ hS1
    have il := ri.length
    rw [List.length_map] at il
    show wpAny _ A.in1 (updateSeq S (·.push (.ref s.heap.objs.size)) >>= _) _ _ _
    refine wpAny_bind (wpAny_updateSeq eS rfl (wpAny_pure ?_) (by rw [List.size_toArray]; omega) (by show (its.toArray.push _).size ≤ _; rw [Array.size_push, List.size_toArray]; omega))
    have oth : ∀ c o, c ≠ S → h'.get? c = some o → (h'.update S (Obj.mapSeq (·.push (.ref s.heap.objs.size)))).get? c = some o := fun c o n e => (Heap.get?_update_other _ _ (Ne.symm n)).trans e
    have eS2 := Heap.get?_update_self (Obj.mapSeq (·.push (Value.ref s.heap.objs.size))) eS rfl
    have I2 := I1.write (x := S) (e := S) (o := .lst ((ts ++ [s.heap.objs.size]).map V.ref)) (t' := s.toks) (by rw [hS1]; trivial) (.inl rfl) (fun c o n e => oth c o n e) ⟨_, eS2⟩ ⟨by rw [List.length_map, List.length_append, List.length_singleton]; omega, its ++ [.ref s.heap.objs.size], n + 1, by rw [List.map_append]; exact ri.append (.cons rfl .nil), by rw [eS2]; simp [Obj.mapSeq]⟩
    refine ⟨plainId_quiet F.plain_extend_loop _, ih (i + 1) _ _ (ts ++ [s.heap.objs.size]) (by omega) (by omega) I2 (fun c hc => ?_) ?_ ?_ ?_ ?_ upd_same (by rw [List.length_append, ht]; rfl) ?_ fin⟩
    · have f := hf c hc
      have lt : c ≠ s.heap.objs.size := by
        have q : c = z ∨ c = TI ∨ c = TO ∨ c = i1 ∨ c = i2 := by simpa using hc
        rcases q with q | q | q | q | q
        · rw [q]; exact Nat.ne_of_lt Z.lz
        · rw [q]; exact Nat.ne_of_lt (Heap.lt_size Z.ti)
        · rw [q]; obtain ⟨_, _, e⟩ := Z.to; exact Nat.ne_of_lt (Heap.lt_size e)
        · rw [q]; obtain ⟨_, e, _⟩ := h1; exact Nat.ne_of_lt (Heap.lt_size e)
        · rw [q]; obtain ⟨_, e, _⟩ := h2; exact Nat.ne_of_lt (Heap.lt_size e)
      have nc : c ≠ S := by
        have q : c = z ∨ c = TI ∨ c = TO ∨ c = i1 ∨ c = i2 := by simpa using hc
        rcases q with q | q | q | q | q
        · rw [q]; exact nS.1.symm
        · rw [q]; exact nS.2.1.symm
        · rw [q]; exact nS.2.2.1.symm
        · rw [q]; exact nS.2.2.2.1.symm
        · rw [q]; exact nS.2.2.2.2.symm
      refine ⟨?_, f.2⟩
      rw [upd_ne nc, upd_ne lt]
      exact f.1
    · obtain ⟨zp, t1, a1, b1, t2⟩ := Z'
      refine ⟨?_, oth _ _ nS.2.1.symm t1, a1, b1, oth _ _ nS.2.2.1.symm t2⟩
      rcases zp with ⟨q, _⟩ | ⟨T, f, o, q1, q2, q3⟩
      · omega
      · by_cases eT : T = S
        · exact .inr ⟨T, f, _, oth _ _ nS.1.symm q1, by rw [eT]; exact eS2, q3⟩
        · exact .inr ⟨T, f, o, oth _ _ nS.1.symm q1, oth _ _ eT q2, q3⟩
    · exact h1'.at fun o e => oth _ o nS.2.2.2.1.symm e
    · exact h2'.at fun o e => oth _ o nS.2.2.2.2.symm e
    · intro c o e
      rw [upd_ne (ne_of_none e h0S), upd_ne (ne_of_none (sm _ _ e) hT0)]
      exact sm _ _ e
    · intro j t x y hj hx' hy'
      by_cases hji : j < ts.length
      · rw [List.getElem?_append_left hji] at hj
        have q := hg j t x y hj hx' hy'
        rw [upd_ne (ne_of q hS (by intro z; cases z)), upd_ne (ne_of_none q hT0)]
        exact q
      · have ej : j = i := by
          have := (List.getElem?_eq_some_iff.mp hj).1
          rw [List.length_append, List.length_singleton] at this
          omega
        subst ej
        rw [List.getElem?_append_right (by omega), ht, Nat.sub_self] at hj
        cases hj
        rw [hx] at hx'
        rw [hy] at hy'
        cases hx'
        cases hy'
        rw [upd_ne neS.symm]
        exact upd_same
def tLZ (K : PySem.W.Frag) (ta : TA) : TE := fun σ H Q => ta σ H fun vs H1 => ∃ a b xs ys, vs = [.ref a, .ref b] ∧ SqL K H1 a xs ∧ SqL K H1 b ys ∧ xs.length = ys.length ∧ xs.length < sizeLine ∧ ∀ S ts H', Zipped H1 H' S ts xs ys → Q (.ref S) H'
theorem pe_LZ {e e2 : Expr} {ta : TA} {p p2 pos pos2 : Pos} (hc : X.calm = true) (hg : Gl X "list") (hm : X.mg "list" = none) (hg2 : Gl X "zip") (hm2 : X.mg "zip" = none) (ha : PA X [e, e2] ta)
    (hs : starEach [e, e2] X.env = (false, eval e X.env) :: starEach [e2] X.env := by rfl) (hpl : (backTo pos2 (starEach [e2] X.env)).any (·.1) = false := by rfl)
    (hs2 : starEach [.Call (.Name "zip" p2) [e, e2] [] pos2] X.env = (false, eval (.Call (.Name "zip" p2) [e, e2] [] pos2) X.env) :: starEach [] X.env := by rfl) :
    PE X (.Call (.Name "list" p) [.Call (.Name "zip" p2) [e, e2] [] pos2] [] pos) (tLZ X.K ta) := by
  refine ⟨fun pn s σ H Q I h => ?_⟩
  refine Call_ (ld_blt I hg hm boot_list (PyProof.Rows.callWith_type1 (args_cons (Call_ (ld_blt I hg2 hm2 boot_zip (PyProof.Rows.callWith_type1 (thn (ha.run pos2 pn s σ H _ I h) fun us s1 ⟨vs, H1, I1, r1, q1⟩ => ?_) hs hpl))) hs2) hs2 rfl))
  obtain ⟨a, b, xs, ys, ex, qx, qy, hle, hn, q⟩ := q1
  subst ex
  cases r1 with
  | cons r rr =>
   cases rr with
   | cons r' rr =>
    cases rr
    cases r
    cases r'
    obtain ⟨us, rv, p1, _⟩ := I1.list qx
    obtain ⟨vs, rv2, p2, _⟩ := I1.list qy
    have la := p1.lt
    have lb := p2.lt
    refine call_zip_2 p1.isList p2.isList fun h' hz hTI hTO h1 h2 hsz kp => args_nil ?_
    have I2 : L2.Inv X pn σ H1 { s1 with heap := h' } := I1.kept (t' := s1.toks) kp
    have D := PySem.W.ktu_apart s1.heap.objs.size a b la lb
    have hh : X.A.in1.in1.handled = none := I1.ok.hd hc
    have fp : ∀ c ∈ [s1.heap.objs.size + 4, s1.heap.objs.size + 2, s1.heap.objs.size + 3, s1.heap.objs.size, s1.heap.objs.size + 1], FpOk X pn H1 c := fun c hcm => by
      have le : s1.heap.objs.size ≤ c := by
        have e' : c = s1.heap.objs.size + 4 ∨ c = s1.heap.objs.size + 2 ∨ c = s1.heap.objs.size + 3 ∨ c = s1.heap.objs.size ∨ c = s1.heap.objs.size + 1 := by simpa using hcm
        rcases e' with q | q | q | q | q <;> (rw [q]; first | exact Nat.le_refl _ | exact Nat.le_add_right _ _)
      exact I1.fpOk le (I1.hok.fresh le)
    generalize s1.heap.objs.size + 4 = z at *
    generalize s1.heap.objs.size + 2 = TI at *
    generalize s1.heap.objs.size + 3 = TO at *
    generalize s1.heap.objs.size + 1 = i2 at *
    generalize s1.heap.objs.size = i1 at *
    have Z0 : Zst h' z TI TO i1 i2 0 := ⟨.inl ⟨rfl, hz⟩, hTI, _, _, hTO⟩
    have l1 : i1 < h'.objs.size := by obtain ⟨_, e, _⟩ := h1; exact Heap.lt_size e
    have l2 : i2 < h'.objs.size := by obtain ⟨_, e, _⟩ := h2; exact Heap.lt_size e
    refine callType_codes (Q₁ := fun obj t => obj = .ref h'.objs.size ∧ t = { s1 with heap := h'.push { cls := .type "list", data := .seq #[] } }) F.called_list (F.typeCall_list_1 _) F.entry_list_init (code_list_new _ ⟨rfl, rfl⟩) fun obj t ht => ?_
    obtain ⟨rfl, rfl⟩ := ht
    have eS : (h'.push { cls := .type "list", data := .seq #[] }).get? h'.objs.size = some { cls := .type "list", data := .seq #[] } := Heap.get?_push_size _ rfl
    have up : ∀ c o, h'.get? c = some o → (h'.push { cls := .type "list", data := .seq #[] }).get? c = some o := fun c o e => Heap.get?_push_of_some _ e
    refine ⟨⟨_, eS, rfl⟩, F.args_list_init_2 _ _, ?_⟩
    generalize h'.push { cls := .type "list", data := .seq #[] } = g at eS up ⊢
    have nS : h'.objs.size ≠ z ∧ h'.objs.size ≠ TI ∧ h'.objs.size ≠ TO ∧ h'.objs.size ≠ i1 ∧ h'.objs.size ≠ i2 := ⟨Nat.ne_of_gt Z0.lz, Nat.ne_of_gt (Heap.lt_size hTI), Nat.ne_of_gt (Heap.lt_size hTO), Nat.ne_of_gt l1, Nat.ne_of_gt l2⟩
    have h0S : H1 h'.objs.size = none := I2.hok.fresh (Nat.le_refl _)
    have lS : h'.objs.size ≤ h'.objs.size := Nat.le_refl _
    generalize eN : h'.objs.size = S at eS nS h0S lS ⊢
    show wpAny _ _ (do let old ← Builtin.List.listItems (.ref S); Builtin.List.listUpdate (.ref S) (fun _ => #[]); letGo old.toList.reverse; Builtin.List.listExtendWith (.ref S) (.ref z) .none) _ _ _
    unfold Builtin.List.listItems
    refine wpAny_bind (wpAny_bind (wpAny_seqItems eS rfl (wpAny_pure ?_)))
    show wpAny _ _ (updateSeq S (fun _ => #[]) >>= fun _ => letGo (#[] : Array Value).toList.reverse >>= fun _ => Builtin.List.listExtendWith (.ref S) (.ref z) .none) _ _ _
    refine wpAny_bind (wpAny_updateSeq eS rfl ?_)
    have eS2 := Heap.get?_update_self (Obj.mapSeq (fun _ => (#[] : Array Value))) eS rfl
    have o2 : ∀ c o, c ≠ S → g.get? c = some o → (g.update S (Obj.mapSeq (fun _ => (#[] : Array Value)))).get? c = some o := fun c o n e => (Heap.get?_update_other _ _ (Ne.symm n)).trans e
    refine wpAny_bind (wpAny_letGo ?_)
    generalize g.update S (Obj.mapSeq (fun _ => (#[] : Array Value))) = g2 at eS2 o2 ⊢
    have Z2 : Zst g2 z TI TO i1 i2 0 := ⟨.inl ⟨rfl, o2 _ _ nS.1.symm (up _ _ hz)⟩, o2 _ _ nS.2.1.symm (up _ _ hTI), _, _, o2 _ _ nS.2.2.1.symm (up _ _ hTO)⟩
    have ty2 : Shared.TypeIs { s1 with heap := g2 } (.ref z) "zip" := Zst.ty (s := { s1 with heap := g2 }) Z2
    unfold Builtin.List.listExtendWith
    refine wpAny_bind (wpAny_typeOf ty2 ?_)
    have c1 : Builtin.List.listSameRef (.ref S) (.ref z) = false := by simp [Builtin.List.listSameRef, nS.1]
    have c2 : (Value.type "zip" == Value.type "list") = false := by decide
    have c3 : (Value.type "zip" == Value.type "tuple") = false := by decide
    simp only [c1, c2, c3, Bool.or_false, Bool.false_eq_true, if_false]
    refine wpAny_bind (wpAny_pyIter_zip (o2 _ _ nS.1.symm (up _ _ hz)) ?_)
    refine wpAny_bind (wpAny_holding ?_)
    unfold Builtin.List.listLengthHint
    refine wpAny_bind (wpAny_specialOf ty2 zip_no_len ?_)
    show wpAny _ _ (specialOf (Value.ref z) (Str.ofString "__length_hint__") >>= _) _ _ _
    refine wpAny_bind (wpAny_specialOf ty2 zip_no_hint (wpAny_pure ?_))
    show wpAny _ _ (rule "list.extend.makes-room" >>= fun _ => Builtin.List.listTouch (.ref S) >>= fun _ => again (.builtin "list.extend.loop" ⟨[.ref S, .ref z, .none], []⟩)) _ _ _
    refine wpAny_bind (wpAny_rule (wpAny_bind ?_))
    show wpAny _ _ (updateSeq S (·.push .none) >>= fun _ => updateSeq S (·.pop)) _ _ _
    refine wpAny_bind (wpAny_updateSeq eS2 rfl ?_)
    have eS3 := Heap.get?_update_self (Obj.mapSeq (·.push Value.none)) eS2 rfl
    refine wpAny_updateSeq (hz := by seq_fits) eS3 rfl ?_
    have eS4 := Heap.get?_update_self (Obj.mapSeq (·.pop)) eS3 rfl
    have o4 : ∀ c o, c ≠ S → g2.get? c = some o → ((g2.update S (Obj.mapSeq (·.push Value.none))).update S (Obj.mapSeq (·.pop))).get? c = some o := fun c o n e => (Heap.get?_update_other _ _ (Ne.symm n)).trans ((Heap.get?_update_other _ _ (Ne.symm n)).trans e)
    refine wpAny_pure ⟨plainId_quiet F.plain_extend_loop _, ?_⟩
    generalize (g2.update S (Obj.mapSeq (·.push Value.none))).update S (Obj.mapSeq (·.pop)) = g4 at eS4 o4 ⊢
    have kp4 : ∀ c o, h'.get? c = some o → g4.get? c = some o := fun c o e => by
      have n : c ≠ S := by
        rw [← eN]
        exact Nat.ne_of_lt (Heap.lt_size e)
      exact o4 c o n (o2 c o n (up c o e))
    have I4 := I2.laid (t' := s1.toks) (o := .lst (([] : List Addr).map V.ref)) kp4 (Nat.le_of_eq eN) ⟨by simp, [], _, .nil, eS4⟩
    refine loop hh D .none hle hn qx qy h0S nS xs.length 0 _ _ [] (by omega) (Nat.zero_le _) I4 (fun c hcm => ?_) ⟨.inl ⟨rfl, kp4 _ _ hz⟩, kp4 _ _ hTI, _, _, kp4 _ _ hTO⟩ (h1.at fun o e => kp4 _ o e) (h2.at fun o e => kp4 _ o e) (fun c o e => by rw [upd_ne (ne_of_none e h0S)]; exact e) upd_same rfl (fun j t x y hj => by simp at hj) ?_
    · have f := fp c hcm
      refine ⟨?_, f.2⟩
      have n : c ≠ S := by
        have e' : c = z ∨ c = TI ∨ c = TO ∨ c = i1 ∨ c = i2 := by simpa using hcm
        rcases e' with q | q | q | q | q
        · rw [q]; exact nS.1.symm
        · rw [q]; exact nS.2.1.symm
        · rw [q]; exact nS.2.2.1.symm
        · rw [q]; exact nS.2.2.2.1.symm
        · rw [q]; exact nS.2.2.2.2.symm
      rw [upd_ne n]
      exact f.1
    · intro s' H' ts' I' Z'
      exact ⟨rfl, ⟨.ref S, H', I', rfl, q S ts' H' Z'⟩⟩
end
end Lz
namespace Kp
open PySem L2
def top (i : Nat) : Stmt := PySem.Challenge.pw_fairposts_k92_texts_shown.main.body.getD i (.Pass ⟨0, 0, 0, 0⟩)
abbrev s_spoken : Stmt := top 1
def N_spoken : List Str := ["word", "numbers", "number"]
theorem sc_spoken : FnScope ["word", "numbers", "number"] ["word", "numbers"] (defScope s_spoken) := ⟨rfl, rfl, rfl, by decide +kernel, rfl, by decide +kernel, by decide +kernel⟩
abbrev s_commas : Stmt := top 2
def N_commas : List Str := ["numbers", "number"]
theorem sc_commas : FnScope ["numbers", "number"] ["numbers"] (defScope s_commas) := ⟨rfl, rfl, rfl, by decide +kernel, rfl, by decide +kernel, by decide +kernel⟩
abbrev s_gadget_text : Stmt := top 3
def N_gadget_text : List Str := ["gadget", "signs", "word", "hold", "table", "side", "row"]
theorem sc_gadget_text : FnScope ["gadget", "signs", "word", "hold", "table", "side", "row"] ["gadget"] (defScope s_gadget_text) := ⟨rfl, rfl, rfl, by decide +kernel, rfl, by decide +kernel, by decide +kernel⟩
abbrev s_web_text : Stmt := top 4
def N_web_text : List Str := ["web", "rows", "p", "gadgets", "ties", "row", "gadget", "tie"]
theorem sc_web_text : FnScope ["web", "rows", "p", "gadgets", "ties", "row", "gadget", "tie"] ["web"] (defScope s_web_text) := ⟨rfl, rfl, rfl, by decide +kernel, rfl, by decide +kernel, by decide +kernel⟩
abbrev s__law_deck : Stmt := top 6
def N__law_deck : List Str := ["_law_script", "_law_cells", "_law_cell"]
theorem sc__law_deck : FnScope ["_law_script", "_law_cells", "_law_cell"] ["_law_script"] (defScope s__law_deck) := ⟨rfl, rfl, rfl, by decide +kernel, rfl, by decide +kernel, by decide +kernel⟩
abbrev s__law_next : Stmt := top 7
def N__law_next : List Str := ["_law_deck_here", "_law_many", "_law_cell", "_law_mixed", "_law_rest"]
theorem sc__law_next : FnScope ["_law_deck_here", "_law_many", "_law_cell", "_law_mixed", "_law_rest"] ["_law_deck_here", "_law_many"] (defScope s__law_next) := ⟨rfl, rfl, rfl, by decide +kernel, rfl, by decide +kernel, by decide +kernel⟩
abbrev s__law_prime : Stmt := top 8
def N__law_prime : List Str := ["_law_deck_here"]
theorem sc__law_prime : FnScope ["_law_deck_here"] ["_law_deck_here"] (defScope s__law_prime) := ⟨rfl, rfl, rfl, by decide +kernel, rfl, by decide +kernel, by decide +kernel⟩
abbrev s__law_hold : Stmt := top 9
def N__law_hold : List Str := ["_law_deck_here", "_law_posts", "_law_k"]
theorem sc__law_hold : FnScope ["_law_deck_here", "_law_posts", "_law_k"] ["_law_deck_here", "_law_posts"] (defScope s__law_hold) := ⟨rfl, rfl, rfl, by decide +kernel, rfl, by decide +kernel, by decide +kernel⟩
abbrev s__law_table : Stmt := top 10
def N__law_table : List Str := ["_law_deck_here", "_law_p", "_law_posts", "_law_found", "_law_k", "_law_j", "_law_number", "_law_row"]
theorem sc__law_table : FnScope ["_law_deck_here", "_law_p", "_law_posts", "_law_found", "_law_k", "_law_j", "_law_number", "_law_row"] ["_law_deck_here", "_law_p", "_law_posts"] (defScope s__law_table) := ⟨rfl, rfl, rfl, by decide +kernel, rfl, by decide +kernel, by decide +kernel⟩
abbrev s__law_gadget : Stmt := top 11
def N__law_gadget : List Str := ["_law_deck_here", "_law_p", "_law_word", "_law_posts"]
theorem sc__law_gadget : FnScope ["_law_deck_here", "_law_p", "_law_word", "_law_posts"] ["_law_deck_here", "_law_p"] (defScope s__law_gadget) := ⟨rfl, rfl, rfl, by decide +kernel, rfl, by decide +kernel, by decide +kernel⟩
abbrev s__law_width : Stmt := top 12
def N__law_width : List Str := ["_law_gadget_here"]
theorem sc__law_width : FnScope ["_law_gadget_here"] ["_law_gadget_here"] (defScope s__law_width) := ⟨rfl, rfl, rfl, by decide +kernel, rfl, by decide +kernel, by decide +kernel⟩
abbrev s__law_shuffled : Stmt := top 13
def N__law_shuffled : List Str := ["_law_deck_here", "_law_some", "_law_left_ones", "_law_one"]
theorem sc__law_shuffled : FnScope ["_law_deck_here", "_law_some", "_law_left_ones", "_law_one"] ["_law_deck_here", "_law_some"] (defScope s__law_shuffled) := ⟨rfl, rfl, rfl, by decide +kernel, rfl, by decide +kernel, by decide +kernel⟩
abbrev s__law_ties : Stmt := top 14
def N__law_ties : List Str := ["_law_deck_here", "_law_posts", "_law_loose", "_law_found", "_law_one", "_law_choice", "_law_other"]
theorem sc__law_ties : FnScope ["_law_deck_here", "_law_posts", "_law_loose", "_law_found", "_law_one", "_law_choice", "_law_other"] ["_law_deck_here", "_law_posts"] (defScope s__law_ties) := ⟨rfl, rfl, rfl, by decide +kernel, rfl, by decide +kernel, by decide +kernel⟩
abbrev s__law_web : Stmt := top 15
def N__law_web : List Str := ["_law_deck_here", "_law_p", "_law_found", "_law_posts", "_law_turn", "_law_gadget_here"]
theorem sc__law_web : FnScope ["_law_deck_here", "_law_p", "_law_found", "_law_posts", "_law_turn", "_law_gadget_here"] ["_law_deck_here", "_law_p"] (defScope s__law_web) := ⟨rfl, rfl, rfl, by decide +kernel, rfl, by decide +kernel, by decide +kernel⟩
abbrev s__law_gadget_text : Stmt := top 16
def N__law_gadget_text : List Str := ["_law_gadget_here", "_law_rows", "_law_row", "_law_number", "_law_side"]
theorem sc__law_gadget_text : FnScope ["_law_gadget_here", "_law_rows", "_law_row", "_law_number", "_law_side"] ["_law_gadget_here"] (defScope s__law_gadget_text) := ⟨rfl, rfl, rfl, by decide +kernel, rfl, by decide +kernel, by decide +kernel⟩
abbrev s__law_text : Stmt := top 17
def N__law_text : List Str := ["_law_web_here", "_law_rows", "_law_gadget_here", "_law_tie", "_law_row", "_law_word"]
theorem sc__law_text : FnScope ["_law_web_here", "_law_rows", "_law_gadget_here", "_law_tie", "_law_row", "_law_word"] ["_law_web_here"] (defScope s__law_text) := ⟨rfl, rfl, rfl, by decide +kernel, rfl, by decide +kernel, by decide +kernel⟩
abbrev s_law : Stmt := top 18
def N_law : List Str := ["_law_script", "_law_deck_here", "_law_p", "_law_great", "_law_webs", "_law_web_here", "_law_shown", "_law_gadget_here", "_law_k"]
theorem sc_law : FnScope ["_law_script", "_law_deck_here", "_law_p", "_law_great", "_law_webs", "_law_web_here", "_law_shown", "_law_gadget_here", "_law_k"] ["_law_script"] (defScope s_law) := ⟨rfl, rfl, rfl, by decide +kernel, rfl, by decide +kernel, by decide +kernel⟩
structure Df (K : PySem.W.Frag) (mg : Str → Option Value) (x : Str) (st : Stmt) (ps : List Str) (f : Addr) (fd : FuncData) : Prop where
  F : Fun K x x st f fd
  b : Binds K fd ps []
  g : mg x = some (.ref f)
structure Ad where
  f_spoken : Addr
  d_spoken : FuncData
  f_commas : Addr
  d_commas : FuncData
  f_gadget_text : Addr
  d_gadget_text : FuncData
  f_web_text : Addr
  d_web_text : FuncData
  f__law_deck : Addr
  d__law_deck : FuncData
  f__law_next : Addr
  d__law_next : FuncData
  f__law_prime : Addr
  d__law_prime : FuncData
  f__law_hold : Addr
  d__law_hold : FuncData
  f__law_table : Addr
  d__law_table : FuncData
  f__law_gadget : Addr
  d__law_gadget : FuncData
  f__law_width : Addr
  d__law_width : FuncData
  f__law_shuffled : Addr
  d__law_shuffled : FuncData
  f__law_ties : Addr
  d__law_ties : FuncData
  f__law_web : Addr
  d__law_web : FuncData
  f__law_gadget_text : Addr
  d__law_gadget_text : FuncData
  f__law_text : Addr
  d__law_text : FuncData
  f_law : Addr
  d_law : FuncData
structure Tx (K : PySem.W.Frag) (mg : Str → Option Value) (A : Ad) : Prop where
  d_spoken : Df K mg "spoken" s_spoken ["word", "numbers"] A.f_spoken A.d_spoken
  d_commas : Df K mg "commas" s_commas ["numbers"] A.f_commas A.d_commas
  d_gadget_text : Df K mg "gadget_text" s_gadget_text ["gadget"] A.f_gadget_text A.d_gadget_text
  d_web_text : Df K mg "web_text" s_web_text ["web"] A.f_web_text A.d_web_text
  d__law_deck : Df K mg "_law_deck" s__law_deck ["_law_script"] A.f__law_deck A.d__law_deck
  d__law_next : Df K mg "_law_next" s__law_next ["_law_deck_here", "_law_many"] A.f__law_next A.d__law_next
  d__law_prime : Df K mg "_law_prime" s__law_prime ["_law_deck_here"] A.f__law_prime A.d__law_prime
  d__law_hold : Df K mg "_law_hold" s__law_hold ["_law_deck_here", "_law_posts"] A.f__law_hold A.d__law_hold
  d__law_table : Df K mg "_law_table" s__law_table ["_law_deck_here", "_law_p", "_law_posts"] A.f__law_table A.d__law_table
  d__law_gadget : Df K mg "_law_gadget" s__law_gadget ["_law_deck_here", "_law_p"] A.f__law_gadget A.d__law_gadget
  d__law_width : Df K mg "_law_width" s__law_width ["_law_gadget_here"] A.f__law_width A.d__law_width
  d__law_shuffled : Df K mg "_law_shuffled" s__law_shuffled ["_law_deck_here", "_law_some"] A.f__law_shuffled A.d__law_shuffled
  d__law_ties : Df K mg "_law_ties" s__law_ties ["_law_deck_here", "_law_posts"] A.f__law_ties A.d__law_ties
  d__law_web : Df K mg "_law_web" s__law_web ["_law_deck_here", "_law_p"] A.f__law_web A.d__law_web
  d__law_gadget_text : Df K mg "_law_gadget_text" s__law_gadget_text ["_law_gadget_here"] A.f__law_gadget_text A.d__law_gadget_text
  d__law_text : Df K mg "_law_text" s__law_text ["_law_web_here"] A.f__law_text A.d__law_text
  d_law : Df K mg "law" s_law ["_law_script"] A.f_law A.d_law
  b_abs : mg "abs" = none
  b_int : mg "int" = none
  b_len : mg "len" = none
  b_list : mg "list" = none
  b_max : mg "max" = none
  b_min : mg "min" = none
  b_range : mg "range" = none
  b_repr : mg "repr" = none
  b_str : mg "str" = none
  b_tuple : mg "tuple" = none
/-! ### heaps -/
theorem same_upd {H : Hp} {p : Addr} {o : HO} (h : H p = none) : Same H (upd H p o) := fun b x e => by
  rw [upd_ne (ne_of_none e h)]
  exact e
/-- all but the deck's two lists that change stays -/
def Fr (d g : Addr) (H H' : Hp) : Prop := ∀ a o, a ≠ d → a ≠ g → H a = some o → H' a = some o
theorem Fr.refl (d g : Addr) (H : Hp) : Fr d g H H := fun _ _ _ _ h => h
theorem Fr.trans {d g : Addr} {H H1 H2 : Hp} (x : Fr d g H H1) (y : Fr d g H1 H2) : Fr d g H H2 := fun a o hd hg h => y a o hd hg (x a o hd hg h)
theorem Fr.of_same {d g : Addr} {H H1 : Hp} (x : Same H H1) : Fr d g H H1 := fun a o _ _ h => x a o h
theorem Fr.new {d g : Addr} {H : Hp} {p : Addr} {o : HO} (h : H p = none) : Fr d g H (upd H p o) := .of_same (same_upd h)
theorem Fr.atd {d g : Addr} {H : Hp} {o : HO} : Fr d g H (upd H d o) := fun a x hd _ h => by
  rw [upd_ne hd]
  exact h
theorem Fr.atg {d g : Addr} {H : Hp} {o : HO} : Fr d g H (upd H g o) := fun a x _ hg h => by
  rw [upd_ne hg]
  exact h
/-- the deck: a list of great cells, of cells, and a count that is at most k -/
structure Dk (d g c : Addr) (k : Int) (H : Hp) : Prop where
  ex : ∃ (gs cs : List Int) (n : Int), H d = some (.lst [.ref g, .ref c, .int n]) ∧ H g = some (.lst (gs.map V.int)) ∧ H c = some (.lst (cs.map V.int)) ∧ 0 < cs.length ∧ cs.length ≤ 100 ∧ 0 ≤ n ∧ n ≤ k
  dg : d ≠ g
  dc : d ≠ c
  gc : g ≠ c
theorem Dk.mono {d g c : Addr} {k j : Int} {H : Hp} (D : Dk d g c k H) (h : k ≤ j) : Dk d g c j H := by
  obtain ⟨gs, cs, n, h1, h2, h3, h4, h5, h6, h7⟩ := D.ex
  exact ⟨⟨gs, cs, n, h1, h2, h3, h4, h5, h6, by omega⟩, D.dg, D.dc, D.gc⟩
theorem Dk.same {d g c : Addr} {k : Int} {H H' : Hp} (D : Dk d g c k H) (s : Same H H') : Dk d g c k H' := by
  obtain ⟨gs, cs, n, h1, h2, h3, h4, h5, h6, h7⟩ := D.ex
  exact ⟨⟨gs, cs, n, s _ _ h1, s _ _ h2, s _ _ h3, h4, h5, h6, h7⟩, D.dg, D.dc, D.gc⟩
theorem Dk.hd {d g c : Addr} {k : Int} {H : Hp} (D : Dk d g c k H) : ∃ o, H d = some o := by
  obtain ⟨gs, cs, n, h1, _⟩ := D.ex
  exact ⟨_, h1⟩
theorem Dk.nd {d g c p : Addr} {k : Int} {H : Hp} (D : Dk d g c k H) (h : H p = none) : p ≠ d ∧ p ≠ g ∧ p ≠ c := by
  obtain ⟨gs, cs, n, h1, h2, h3, _⟩ := D.ex
  exact ⟨(ne_of_none h1 h).symm, (ne_of_none h2 h).symm, (ne_of_none h3 h).symm⟩
theorem neqv_nil : ∀ gs : List Int, PyData.eqv (.list (gs.map PyData.int)) (.list []) = gs.isEmpty
  | [] => rfl
  | _ :: _ => rfl
theorem dp_ints {K : PySem.W.Frag} {H : Hp} : ∀ gs : List Int, DpAll K H (gs.map V.int) (gs.map PyData.int)
  | [] => .nil
  | i :: r => .cons (.int i) (dp_ints r)
theorem lay_ints : ∀ gs : List Int, PyData.canLayAll0 (gs.map PyData.int) = true
  | [] => by simp [PyData.canLayAll0]
  | z :: zs => by simp [PyData.canLayAll0, PyData.canLay0, lay_ints zs]
theorem dep_ints : ∀ gs : List Int, PyData.depthAll (gs.map PyData.int) = 0
  | [] => by simp [PyData.depthAll]
  | z :: zs => by simp [PyData.depthAll, PyData.depth, dep_ints zs]
theorem sh_ints (gs : List Int) : SeqAt.shaped (.list (gs.map PyData.int)) = true := by
  have h1 := dep_ints gs
  have h2 : PyData.depth (.list (gs.map PyData.int)) ≤ 64 := by
    simp only [PyData.depth]
    omega
  show (PyData.canLay0 (.list (gs.map PyData.int)) && decide (PyData.depth (.list (gs.map PyData.int)) ≤ 64)) = true
  rw [Bool.and_eq_true]
  exact ⟨by simp only [PyData.canLay0]; exact lay_ints gs, decide_eq_true h2⟩
theorem atI_zero {α : Type} {x : α} {xs : List α} : atI (x :: xs) 0 = some x := atI_nat (j := 0) rfl
theorem ints_at {cs : List Int} {i : Int} (h0 : 0 ≤ i) (h1 : i < cs.length) : ∃ v : Int, atI (cs.map V.int) i = some (V.int v) := by
  obtain ⟨j, rfl⟩ := Int.eq_ofNat_of_zero_le h0
  have hj : j < cs.length := by omega
  refine ⟨cs[j], ?_⟩
  apply atI_nat
  rw [List.getElem?_map, List.getElem?_eq_getElem hj]
  rfl
theorem int_of_map {cs : List Int} {i : Nat} {y : V} (h : (cs.map V.int)[i]? = some y) : ∃ u, y = V.int u := by
  rw [List.getElem?_map] at h
  cases e : cs[i]? with
  | none =>
    rw [e] at h
    cases h
  | some u =>
    rw [e] at h
    exact ⟨u, (Option.some.inj h).symm⟩
theorem ixN_zero {n : Nat} (h : 0 < n) : ixN n 0 = some 0 := by
  unfold ixN
  rw [if_pos (Int.le_refl 0), if_pos (by omega)]
  rfl
theorem ixN_seq0 {n : Nat} (h : 0 < n) : seqIndex? 0 n = some 0 := (ixN_seq (ixN_zero h)).1
theorem mod_in {a m : Int} (h0 : 0 < m) (h1 : m ≤ 2 ^ 64) : -(2 ^ 64) < a % m ∧ a % m < 2 ^ 64 := by
  have x := Int.emod_nonneg a (b := m) (by omega)
  have y := Int.emod_lt_of_pos a h0
  exact ⟨by omega, by omega⟩
theorem bl_t {c : Prop} [Decidable c] (h : c) : V.bl (decide c) = V.bl true := by rw [decide_eq_true h]
theorem bl_f {c : Prop} [Decidable c] (h : ¬ c) : V.bl (decide c) = V.bl false := by rw [decide_eq_false h]
theorem nb_f {c : Prop} [Decidable c] (h : c) : V.bl (!decide c) = V.bl false := by rw [decide_eq_true h]; rfl
theorem nb_t {c : Prop} [Decidable c] (h : ¬ c) : V.bl (!decide c) = V.bl true := by rw [decide_eq_false h]; rfl
/-! ### isinstance -/
def isB (T U : String) : Bool := (kitB T U).getD false
/-- the built-in type of a value -/
def TyB1 (K : PySem.W.Frag) (H : Hp) (x : V) (T : String) : Prop := TyX K H x (.type T) ∧ (T = "int" ∨ T = "bool" ∨ T = "NoneType" ∨ T = "str" ∨ T = "list" ∨ T = "tuple" ∨ T = "dict")
theorem isi_of {K : PySem.W.Frag} {T : String} (U : String) (hT : T = "int" ∨ T = "bool" ∨ T = "NoneType" ∨ T = "str" ∨ T = "list" ∨ T = "tuple" ∨ T = "dict") (hU : U = "int" ∨ U = "bool" ∨ U = "tuple" ∨ U = "list" ∨ U = "str") : PySem.W.kitOne K (.type T) (.type U) = some (isB T U) := by
  rcases hT with rfl | rfl | rfl | rfl | rfl | rfl | rfl <;> rcases hU with rfl | rfl | rfl | rfl | rfl <;> exact kit_ty (by decide +kernel)
theorem isB_ii : isB "int" "int" = true := by decide +kernel
theorem isB_ib : isB "int" "bool" = false := by decide +kernel
theorem isB_bi : isB "bool" "int" = true := by decide +kernel
theorem isB_bb : isB "bool" "bool" = true := by decide +kernel
theorem isB_tt : isB "tuple" "tuple" = true := by decide +kernel
/-! ### a call where it is known that no repr is under way (guards), and the law's own end over it -/
open PySem.Spec PyProof.Rows in
theorem at_call {P : Program} {w : World} {K : PySem.W.Frag} {mg : Str → Option Value} {base : Heap} {A : Around} {outer : List Env}
    {x qual : Str} {st : Stmt} {f : Addr} {fd : FuncData} {N ps : List Str} {k : Nat} (F : Fun K x qual st f fd)
    (S : FnScope N ps (defScope st)) {s : Shared} {H : Hp} {args : Args} {us : List Value} {vs : List V} {Q : VK} {E : XK}
    (hl : vs.length = ps.length) (room : Room (k + 1) A) (e0 : Env0 P w K mg base A outer s H)
    (hb : BindsTo s fd args (ps.zip us)) (rv : Vals vs us)
    (body : ∀ cdv : Value, Room k (A.deeper (envOfC qual (defScope st) s.heap.objs.size f cdv)) →
      ∃ t, PSs (cxOf CX0 P w K mg base N qual (defScope st) f cdv A outer s H E).nox (defBody st) t ∧
        t { nx := fun _ H' => Q .non H', rt := Q } (start N vs) H) :
    codeAny (model P w) A (.call (.ref f) args) (CR CX0 outer P w H s Q E) s := by
  obtain ⟨oc, od, kV, doc, pm, an, cdv, ct, osl, rfl, look, code⟩ := F.ex
  have inn : ∀ {b o}, base.get? b = some o → s.heap.get? b = some o := fun z => (e0.bs _ _ z).1
  have kin : K.In s.heap := e0.mod.kin.keeps fun _ _ z => inn z
  have nol : s.heap.NoLimit := e0.mod.nolimit.keeps fun _ _ z => inn z
  refine codeAny_call_function room.depth (kin _ _ look) rfl S.co S.gen rfl (PySem.W.codeRec_of kin code) (hb _ _ _ _ ?_)
  refine wpAny_newFunctionEnv_cells S.kind (fun y hy => ?_) fun env he s1 inc => ?_
  · obtain ⟨n, v⟩ := y
    cases S.par n (List.of_mem_zip hy).1 with
    | inl z => exact Or.inl z
    | inr z => exact Or.inr ⟨z, PySem.W.cellsFrom_some _ _ _ (Or.inl z)⟩
  · subst he
    refine ⟨nol.keeps inc.toInCall.keep, codeAny_func ?_⟩
    obtain ⟨t, ht, hq⟩ := body cdv (room.deeper _)
    have I0 := inv_start (CX := CX0) (E := E) S room.hd e0 hl rv inc
    refine wpAny_mono (ht.nox.run [] s1 (start N vs) H _ I0 hq) (fun fl s' hs => ?_) (fun _ _ z => z)
    match fl, hs with
    | .ret _, ⟨v, _, H', J, r1, q1⟩ => exact ⟨v, H', J.os, J.bare, J.base, J.hok, r1, q1⟩
    | .next, ⟨_, H', J, q1⟩ => exact ⟨V.non, H', J.os, J.bare, J.base, J.hok, rfl, q1⟩
    | .brk, ⟨_, _, _, z⟩ => exact z.elim
    | .cont, ⟨_, _, _, z⟩ => exact z.elim
open PySem.Spec PyProof.Rows in
theorem core_end {P : Program} {w : World} {K : PySem.W.Frag} {mg mb : Str → Option Value} {fa a : Addr} {t : Shared} {vs : List Value} {H : Hp}
    (kin : K.In t.heap) (hm : t.heap.Ns mainGlobals mg) (hb : t.heap.Ns builtinsNs mb) (boot : ∀ x : Str, x ≠ "__name__" → mb x = bootBuiltins x)
    (nol : t.heap.NoLimit) (hg : t.gens = #[]) (ha : t.heap.get? a = some { cls := .type "list", data := .seq vs.toArray })
    (only : Only H) (hok : HOk P w H t.heap) (atA : ∀ b o, H b = some o → b = a) (notK : ∀ o, H a = some o → K.lookup a = none)
    (R : ∀ base : Heap, (∀ b o, t.heap.get? b = some o → H b = none → base.get? b = some o) → Env0 P w K mg base callerA [] t H →
      codeAny (model P w) callerA (.call (.ref fa) ⟨[.ref a], []⟩) (CR CX0 [] P w H t (fun v _ => v = .bl true) E0) t) :
    codeAny (model P w) callerA (.call (.ref fa) ⟨[.ref a], []⟩)
      (fun r u => r = .ok (.ret (.bool true)) ∧ PySem.OldK t.heap u.heap ∧ u.os = t.os ∧ AllBare u.gens) t := by
  have hid : ∀ {b o}, t.heap.get? b = some o → H b = none → (hidT t.heap H).get? b = some o := fun z n => hidT_get z n
  have names : ∀ {b : Addr} {m : Str → Option Value}, t.heap.Ns b m → (hidT t.heap H).Ns b m := by
    rintro b m ⟨o, es, ep, z, d, r⟩
    refine ⟨o, es, ep, hid z ?_, d, r⟩
    cases q : H b with
    | none => rfl
    | some u =>
      cases atA b u q
      rw [ha] at z
      cases z
      cases d
  have kinB : K.In (hidT t.heap H) := by
    intro b o z
    refine hid (kin b o z) ?_
    cases q : H b with
    | none => rfl
    | some u =>
      cases atA b u q
      rw [notK u q] at z
      cases z
  obtain ⟨mc, n1, n2⟩ := nol
  have md : Mod K mg (hidT t.heap H) := ⟨kinB, names hm, ⟨mb, names hb, boot⟩, ⟨mc, names n1, n2⟩⟩
  have e0 : Env0 P w K mg (hidT t.heap H) callerA [] t H := by
    refine ⟨rfl, md, fun b o z => of_hidT z, Nat.le_of_eq (hidT_size _ _), trivial, fun b z => ?_, hok, .of_eq hg⟩
    exact (List.not_mem_nil (show b ∈ ([] : List Addr) from z)).elim
  refine codeAny_mono (R _ (fun b o z n => hid z n) e0) fun r u h => ?_
  match r, h with
  | .ok (.ret y), ⟨v, H', hos, bare, un, hok', rel, e⟩ =>
    have e2 : v = V.bl true := e
    subst e2
    cases (show y = Value.bool true from rel)
    refine ⟨rfl, OldK.of_keep fun b o z => ?_, hos, bare⟩
    rcases only b with n | ⟨ob, xs, n⟩
    · exact un.keep b o z n (fun y => (List.not_mem_nil (show b ∈ ([] : List Addr) from y)).elim) (by simp)
    · obtain ⟨g1, _⟩ := hok b _ n
      obtain ⟨g2, _⟩ := hok' b _ (un.frzs b ob _ n)
      rw [g1] at z
      cases z
      exact g2
  | .ok .next, h => exact False.elim h
  | .ok .brk, h => exact False.elim h
  | .ok .cont, h => exact False.elim h
  | .error _, h => exact False.elim h
open PySem.Spec PyProof.Rows in
/-- the law's call, over every script of at most 63 numbers, gives True -/
def LawOk (P : Program) (w : World) (K : PySem.W.Frag) (mg : Str → Option Value) (fa : Addr) : Prop :=
  ∀ (base : Heap) (t : Shared) (H : Hp) (a : Addr) (ns : List Int), ns.length ≤ 63 → (∃ o, base.get? sysModules = some o) → Env0 P w K mg base callerA [] t H → SqL K H a (ns.map V.int) →
    codeAny (model P w) callerA (.call (.ref fa) ⟨[.ref a], []⟩) (CR CX0 [] P w H t (fun v _ => v = .bl true) E0) t
open PySem.Spec PyProof.Rows in
theorem walk_g {l : PySem.W.OpenLaw} {q : Program} {loose : List Str} {XP : (Str → Option Value) → Heap → Prop} {YP : World → Heap → Prop} {d : DefRec} {K : Params → PySem.W.Frag}
    (hn : l.most = some 63) (hdf : d.params.defaults = []) (hi : importsNone q = true) (hY : ∀ (w : World) (h : Heap), YP w h → (K w.params).In h)
    (F : ∀ (w : World) (mg : Str → Option Value) (fa : Addr) (h : Heap), (K w.params).In h → h.Ns mainGlobals mg → mg d.name = some (.ref fa) → LawOk l.prog w (K w.params) mg fa) :
    PySem.W.WalkO q loose XP YP l.row.toRowW d [] (fun f vs => PySem.call f vs) := by
  refine Att.attach_call hn hdf fun w s₀ t mg mb fa o pm cd doc a vs ns G Y ho hd hcd hmg hobj hints hlen hg => ?_
  have kin := hY w _ Y
  have L := F w mg fa _ kin G.T.g hmg
  have rv := vals_ints hints
  have small : ns.length ≤ sizeLine := Nat.le_trans hlen (by decide)
  obtain ⟨mm, ⟨os, es, ep, hos, hod, _⟩, _⟩ := (G.T.seer hi).mods
  cases hk : (K w.params).lookup a with
  | some u =>
    have z := kin a u hk
    rw [hobj] at z
    cases z
    refine core_end (H := fun _ => none) kin G.T.g G.T.b G.T.builtins G.T.nolimit hg hobj (fun _ => .inl rfl) (fun b u z => nomatch z) (fun b o z => nomatch z) (fun o z => nomatch z) fun base up e0 => ?_
    exact L base t _ a ns hlen ⟨_, up _ _ hos rfl⟩ e0 (.inr ⟨_, vs.toArray, _, hk, rfl, rfl, rfl, by rw [List.size_toArray, hints.length]; exact small, by simpa using rv⟩)
  | none =>
    refine core_end (H := fun b => if b = a then some (.frz { cls := .type "list", data := .seq vs.toArray } (.lst (ns.map V.int))) else none) kin G.T.g G.T.b G.T.builtins G.T.nolimit hg hobj (fun b => ?_) (fun b u z => ?_) (fun b o z => ?_) (fun _ _ => hk) fun base up e0 => ?_
    · by_cases e : b = a
      · exact .inr ⟨_, _, if_pos e⟩
      · exact .inl (if_neg e)
    · by_cases e : b = a
      · cases (if_pos e).symm.trans z
        subst e
        exact ⟨hobj, by rw [List.length_map]; exact small, vs, _, rv, hobj⟩
      · cases (if_neg e).symm.trans z
    · by_cases e : b = a
      · exact e
      · cases (if_neg e).symm.trans z
    · have ne : sysModules ≠ a := fun z => by
        rw [z, hobj] at hos
        cases hos
        cases hod
      have h1 := L base t _ a ns hlen ⟨_, up _ _ hos (if_neg ne)⟩ e0
      exact h1 (.inl (.inr ⟨_, if_pos rfl⟩))
open PySem.Spec PyProof.Rows in
theorem guards_caller : callerA.guards = some [] := rfl
section
variable {X : Cx}
open PySem.Spec PyProof.Rows in
/-- repr(x), x of lists, tuples, ints, texts, truths, None -/
theorem call_reprD (hg : X.A.guards = some []) (hu : X.A.units + 80 < cLine) : CallR X (.builtin "repr") (fun xs H Q => ∃ (a : Addr) (d : PyData), xs = [.ref a] ∧ Dp X.K H (.ref a) d ∧ d.showable = true ∧ d.hasDict = false ∧ d.depth ≤ 64 ∧ d.shown.length ≤ sizeLine ∧ Q (.str d.shown) H) := by
  intro pins s σ H xs us Q I r h
  obtain ⟨a, d, rfl, hd, hs, hn, hz, hl, q⟩ := h
  obtain ⟨u, rfl, ru⟩ := vals1 r
  obtain ⟨as, rd⟩ := Dp.reads I d _ u hd ru
  obtain rfl : u = Value.ref a := ru
  refine repr_of_reads' rd hs (PyData.noDict_hsm hn) hg (by omega) (fun _ _ z => z) (fun h' u tk hk => ?_) hl
  exact ⟨.str d.shown, H, I.kept hk, ⟨_, rfl⟩, q⟩
end
theorem ru80 {k : Nat} {A : Around} (hr : Room k A) : A.units + 80 < cLine := by
  have := hr.un
  omega
open PySem.Spec PyProof.Rows in
theorem law_at {P : Program} {w : World} {K : PySem.W.Frag} {mg : Str → Option Value} {st : Stmt} {f : Addr} {fd : FuncData} {N : List Str} {p : Str} {k : Nat}
    (D : Df K mg "law" st [p] f fd) (S : FnScope N [p] (defScope st)) (room : Room (k + 1) callerA)
    (body : ∀ (base : Heap) (t : Shared) (H : Hp) (a : Addr) (ns : List Int) (cdv : Value), ns.length ≤ 63 → (∃ o, base.get? sysModules = some o) → SqL K H a (ns.map V.int) →
      Room k (callerA.deeper (envOfC "law" (defScope st) t.heap.objs.size f cdv)) →
      ∃ tm, PSs (cxOf CX0 P w K mg base N "law" (defScope st) f cdv callerA [] t H E0).nox (defBody st) tm ∧
        tm { nx := fun _ _ => V.non = .bl true, rt := fun v _ => v = .bl true } (start N [.ref a]) H) : LawOk P w K mg f := by
  intro base t H a ns hl hm e0 hS
  have kin : K.In t.heap := e0.mod.kin.keeps fun b o z => (e0.bs b o z).1
  exact at_call (vs := [.ref a]) D.F S rfl room e0 (D.b t [.ref a] kin rfl) (.cons rfl .nil) fun cdv hr => body base t H a ns cdv hl hm hS hr
/-! ### things of any depth: None, truths, ints, texts, lists, tuples, {} -/
mutual
inductive Dq (H : Hp) : V → PyData → Prop
  | non : Dq H .non .none
  | bl (b : Bool) : Dq H (.bl b) (.bool b)
  | int (i : Int) : Dq H (.int i) (.int i)
  | str (x : Str) : Dq H (.str x) (.str x)
  | lst {a : Addr} {xs : List V} {ds : List PyData} : H a = some (.lst xs) → DqAll H xs ds → Dq H (.ref a) (.list ds)
  | tup {a : Addr} {xs : List V} {ds : List PyData} : H a = some (.tup xs) → DqAll H xs ds → Dq H (.ref a) (.tuple ds)
  | dic {a : Addr} : H a = some (.dK []) → Dq H (.ref a) (.dict [])
inductive DqAll (H : Hp) : List V → List PyData → Prop
  | nil : DqAll H [] []
  | cons {v : V} {vs : List V} {d : PyData} {ds : List PyData} : Dq H v d → DqAll H vs ds → DqAll H (v :: vs) (d :: ds)
end
theorem DqAll.length {H : Hp} : ∀ {vs : List V} {ds : List PyData}, DqAll H vs ds → vs.length = ds.length
  | [], _, h => by
    cases h
    rfl
  | _ :: vs, _, h => by
    cases h with
    | cons _ h2 => exact congrArg (· + 1) (DqAll.length h2)
theorem DqAll.append {H : Hp} : ∀ {vs ws : List V} {ds es : List PyData}, DqAll H vs ds → DqAll H ws es → DqAll H (vs ++ ws) (ds ++ es)
  | [], _, _, _, h, k => by
    cases h
    exact k
  | _ :: _, _, _, _, h, k => by
    cases h with
    | cons h1 h2 => exact .cons h1 (DqAll.append h2 k)
theorem DqAll.get {H : Hp} : ∀ {vs : List V} {ds : List PyData} {i : Nat} {v : V}, DqAll H vs ds → vs[i]? = some v → ∃ d, ds[i]? = some d ∧ Dq H v d
  | [], _, _, _, _, e => by simp at e
  | x :: vs, _, 0, v, h, e => by
    cases h with
    | cons h1 h2 =>
      cases (Option.some.inj e)
      exact ⟨_, rfl, h1⟩
  | x :: vs, _, i + 1, v, h, e => by
    cases h with
    | cons h1 h2 => exact DqAll.get (i := i) h2 (show vs[i]? = some v from e)
theorem DqAll.take {H : Hp} : ∀ {vs : List V} {ds : List PyData} (n : Nat), DqAll H vs ds → DqAll H (vs.take n) (ds.take n)
  | _, _, 0, _ => by
    rw [List.take_zero, List.take_zero]
    exact .nil
  | [], _, n + 1, h => by
    cases h
    exact .nil
  | _ :: _, _, n + 1, h => by
    cases h with
    | cons h1 h2 => exact .cons h1 (DqAll.take n h2)
theorem DqAll.drop {H : Hp} : ∀ {vs : List V} {ds : List PyData} (n : Nat), DqAll H vs ds → DqAll H (vs.drop n) (ds.drop n)
  | _, _, 0, h => h
  | [], _, n + 1, h => by
    cases h
    exact .nil
  | _ :: _, _, n + 1, h => by
    cases h with
    | cons h1 h2 => exact DqAll.drop n h2
theorem DqAll.rev {H : Hp} : ∀ {vs : List V} {ds : List PyData}, DqAll H vs ds → DqAll H vs.reverse ds.reverse
  | [], _, h => by
    cases h
    exact .nil
  | v :: vs, _, h => by
    cases h with
    | cons h1 h2 =>
      rw [List.reverse_cons, List.reverse_cons]
      exact (DqAll.rev h2).append (.cons h1 .nil)
mutual
theorem Dq.mono {H H' : Hp} (s : ∀ a o, H a = some o → (∀ xs, o = .lst xs → H' a = some o) ∧ (∀ xs, o = .tup xs → H' a = some o) ∧ (o = .dK [] → H' a = some o)) : ∀ (d : PyData) (v : V), Dq H v d → Dq H' v d
  | .none, _, h => by
    cases h
    exact .non
  | .bool b, _, h => by
    cases h
    exact .bl b
  | .int i, _, h => by
    cases h
    exact .int i
  | .str x, _, h => by
    cases h
    exact .str x
  | .list ds, _, h => by
    cases h with
    | lst e k => exact .lst ((s _ _ e).1 _ rfl) (Dq.monoAll s ds _ k)
  | .tuple ds, _, h => by
    cases h with
    | tup e k => exact .tup ((s _ _ e).2.1 _ rfl) (Dq.monoAll s ds _ k)
  | .dict _, _, h => by
    cases h with
    | dic e => exact .dic ((s _ _ e).2.2 rfl)
theorem Dq.monoAll {H H' : Hp} (s : ∀ a o, H a = some o → (∀ xs, o = .lst xs → H' a = some o) ∧ (∀ xs, o = .tup xs → H' a = some o) ∧ (o = .dK [] → H' a = some o)) : ∀ (ds : List PyData) (vs : List V), DqAll H vs ds → DqAll H' vs ds
  | [], _, h => by
    cases h
    exact .nil
  | d :: ds, _, h => by
    cases h with
    | cons h1 h2 => exact .cons (Dq.mono s d _ h1) (Dq.monoAll s ds _ h2)
end
theorem Dq.same {H H' : Hp} {v : V} {d : PyData} (h : Dq H v d) (s : Same H H') : Dq H' v d := Dq.mono (fun _ _ e => ⟨fun _ _ => s _ _ e, fun _ _ => s _ _ e, fun _ => s _ _ e⟩) d v h
theorem DqAll.same {H H' : Hp} {v : List V} {d : List PyData} (h : DqAll H v d) (s : Same H H') : DqAll H' v d := Dq.monoAll (fun _ _ e => ⟨fun _ _ => s _ _ e, fun _ _ => s _ _ e, fun _ => s _ _ e⟩) d v h
section
variable {X : Cx} {pins : List (Addr × Obj)} {σ : L2.St} {H : Hp} {s : Shared}
open PySem.Spec PyProof.Rows
theorem tracked_ne (I : L2.Inv X pins σ H s) (hm : ∃ o, X.base.get? sysModules = some o) {a : Addr} {o : HO} (e : H a = some o) : sysModules ≠ a := fun z => by
  obtain ⟨ob, hb⟩ := hm
  have n := (I.bs _ _ hb).2
  rw [z, e] at n
  cases n
mutual
theorem Dq.reads (I : L2.Inv X pins σ H s) (hm : ∃ o, X.base.get? sysModules = some o) : ∀ (d : PyData) (v : V) (u : Value), Dq H v d → L2.RelV v u → ∃ as, Reads s.heap u d as ∧ sysModules ∉ as
  | .none, _, _, h, r => by
    cases h
    cases r
    exact ⟨_, Reads.none, by simp⟩
  | .bool b, _, _, h, r => by
    cases h
    cases r
    exact ⟨_, Reads.bool b, by simp⟩
  | .int i, _, _, h, r => by
    cases h
    obtain ⟨t, rfl⟩ := r
    exact ⟨_, Reads.int i t, by simp⟩
  | .str x, _, _, h, r => by
    cases h
    obtain ⟨t, rfl⟩ := r
    exact ⟨_, Reads.str x t, by simp⟩
  | .list ds, _, _, h, r => by
    cases h with
    | lst e k =>
      cases r
      have ne := tracked_ne I hm e
      obtain ⟨its, rv, ⟨o, n, ho, hc, _, hd⟩, _⟩ := I.list (SqL.of e)
      obtain ⟨as, hr, hn⟩ := Dq.readsAll I hm ds _ its k rv
      exact ⟨_, Reads.list ho hc hd hr, fun z => by
        rcases List.mem_cons.mp z with z | z
        · exact ne z
        · exact hn z⟩
  | .tuple ds, _, _, h, r => by
    cases h with
    | tup e k =>
      cases r
      obtain ⟨its, rv, ⟨o, ho, hc, n, hd⟩, _⟩ := I.tuple (SqT.of e)
      obtain ⟨as, hr, hn⟩ := Dq.readsAll I hm ds _ its k rv
      exact ⟨_, Reads.tuple ho hc hd hr, hn⟩
  | .dict _, _, _, h, r => by
    cases h with
    | dic e =>
      cases r
      have ne := tracked_ne I hm e
      obtain ⟨_, _, vs, kv, o, es, ep, h1, h2, h3, h4, h6, _⟩ := I.hok _ _ e
      cases kv
      have h5 : es.toList = [] := by
        revert h6
        cases es.toList with
        | nil => exact fun _ => rfl
        | cons x y =>
          intro z
          cases z
      refine ⟨_, Reads.dict (kvs := []) (as := []) (bs := []) h1 h2.1 h3 (by rw [h5]; exact .nil) (by rw [h5]; exact .nil), fun z => ?_⟩
      rcases List.mem_cons.mp z with z | z
      · exact ne z
      · simp at z
theorem Dq.readsAll (I : L2.Inv X pins σ H s) (hm : ∃ o, X.base.get? sysModules = some o) : ∀ (ds : List PyData) (vs : List V) (us : List Value), DqAll H vs ds → L2.Vals vs us → ∃ as, ReadsAll s.heap us ds as ∧ sysModules ∉ as
  | [], _, _, h, r => by
    cases h
    cases r
    exact ⟨_, ReadsAll.nil, by simp⟩
  | d :: ds, _, _, h, r => by
    cases h with
    | cons h1 h2 =>
      cases r with
      | cons r1 r2 =>
        obtain ⟨as, q1, n1⟩ := Dq.reads I hm d _ _ h1 r1
        obtain ⟨bs, q2, n2⟩ := Dq.readsAll I hm ds _ _ h2 r2
        exact ⟨_, ReadsAll.cons q1 q2, fun z => (List.mem_append.mp z).elim n1 n2⟩
end
end
section
variable {X : Cx}
open PySem.Spec PyProof.Rows in
/-- repr(x), x any such thing -/
theorem call_reprQ (hm : ∃ o, X.base.get? sysModules = some o) (hg : X.A.guards = some []) (hu : X.A.units + 80 < cLine) : CallR X (.builtin "repr") (fun xs H Q => ∃ (x : V) (d : PyData), xs = [x] ∧ Dq H x d ∧ d.showable = true ∧ d.depth ≤ 64 ∧ d.shown.length ≤ sizeLine ∧ Q (.str d.shown) H) := by
  intro pins s σ H xs us Q I r h
  obtain ⟨x, d, rfl, hd, hs, hz, hl, q⟩ := h
  obtain ⟨u, rfl, ru⟩ := vals1 r
  cases hd with
  | non =>
    obtain rfl : u = Value.none := ru
    exact PySem.P.repr_of_none ⟨.str _, H, I.tok _, ⟨_, rfl⟩, q⟩
  | bl b =>
    obtain rfl : u = Value.bool b := ru
    exact PySem.P.repr_of_bool ⟨.str _, H, I.tok _, ⟨_, rfl⟩, q⟩
  | int i =>
    obtain ⟨t, rfl⟩ := ru
    exact PySem.P.repr_of_int (by simpa [PyData.showable] using hs) ⟨.str _, H, I.tok _, ⟨_, rfl⟩, q⟩
  | str z =>
    obtain ⟨t, rfl⟩ := ru
    exact PySem.P.repr_of_str ⟨.str _, H, I.tok _, ⟨_, rfl⟩, q⟩ hl
  | @lst a xs ds e k =>
    obtain ⟨as, rd, hn⟩ := Dq.reads I hm (.list ds) _ u (.lst e k) ru
    obtain rfl : u = Value.ref a := ru
    refine repr_of_reads' rd hs (fun _ => hn) hg (by omega) (fun _ _ z => z) (fun h' u tk hk => ?_) hl
    exact ⟨.str _, H, I.kept hk, ⟨_, rfl⟩, q⟩
  | @tup a xs ds e k =>
    obtain ⟨as, rd, hn⟩ := Dq.reads I hm (.tuple ds) _ u (.tup e k) ru
    obtain rfl : u = Value.ref a := ru
    refine repr_of_reads' rd hs (fun _ => hn) hg (by omega) (fun _ _ z => z) (fun h' u tk hk => ?_) hl
    exact ⟨.str _, H, I.kept hk, ⟨_, rfl⟩, q⟩
  | @dic a e =>
    obtain ⟨as, rd, hn⟩ := Dq.reads I hm (.dict []) _ u (.dic e) ru
    obtain rfl : u = Value.ref a := ru
    refine repr_of_reads' rd hs (fun _ => hn) hg (by omega) (fun _ _ z => z) (fun h' u tk hk => ?_) hl
    exact ⟨.str _, H, I.kept hk, ⟨_, rfl⟩, q⟩
end
/-! ### how great a thing is -/
def Gd (n m : Nat) (d : PyData) : Prop := d.showable = true ∧ d.leavesShort 120 = true ∧ d.weight ≤ n ∧ d.depth ≤ m
def GdAll (n m : Nat) (ds : List PyData) : Prop := PyData.showableAll ds = true ∧ PyData.leavesShortAll 120 ds = true ∧ PyData.weightAll ds ≤ n ∧ PyData.depthAll ds ≤ m
theorem Gd.mono {n m n' m' : Nat} {d : PyData} (h : Gd n m d) (a : n ≤ n') (b : m ≤ m') : Gd n' m' d := ⟨h.1, h.2.1, by have := h.2.2.1; omega, by have := h.2.2.2; omega⟩
theorem GdAll.mono {n m n' m' : Nat} {d : List PyData} (h : GdAll n m d) (a : n ≤ n') (b : m ≤ m') : GdAll n' m' d := ⟨h.1, h.2.1, by have := h.2.2.1; omega, by have := h.2.2.2; omega⟩
theorem GdAll.nil {n m : Nat} : GdAll n m [] := ⟨by simp [PyData.showableAll], by simp [PyData.leavesShortAll], by simp [PyData.weightAll], by simp [PyData.depthAll]⟩
theorem GdAll.cons {a b m : Nat} {d : PyData} {ds : List PyData} (h : Gd a m d) (k : GdAll b m ds) : GdAll (a + 1 + b) m (d :: ds) := by
  obtain ⟨h1, h2, h3, h4⟩ := h
  obtain ⟨k1, k2, k3, k4⟩ := k
  refine ⟨by simp [PyData.showableAll, h1, k1], by simp [PyData.leavesShortAll, h2, k2], ?_, ?_⟩
  · simp only [PyData.weightAll]
    omega
  · simp only [PyData.depthAll]
    omega
theorem GdAll.head {n m : Nat} {d : PyData} {ds : List PyData} (h : GdAll n m (d :: ds)) : ∃ a b, a + 1 + b ≤ n ∧ Gd a m d ∧ GdAll b m ds := by
  obtain ⟨h1, h2, h3, h4⟩ := h
  simp only [PyData.showableAll, Bool.and_eq_true] at h1
  simp only [PyData.leavesShortAll, Bool.and_eq_true] at h2
  simp only [PyData.weightAll] at h3
  simp only [PyData.depthAll] at h4
  exact ⟨d.weight, PyData.weightAll ds, h3, ⟨h1.1, h2.1, Nat.le_refl _, by omega⟩, ⟨h1.2, h2.2, Nat.le_refl _, by omega⟩⟩
theorem GdAll.append {m : Nat} : ∀ {a b : Nat} {xs ys : List PyData}, GdAll a m xs → GdAll b m ys → GdAll (a + b) m (xs ++ ys)
  | _, _, [], _, _, k => k.mono (by omega) (by omega)
  | a, b, x :: xs, _, h, k => by
    obtain ⟨u, v, e, h1, h2⟩ := h.head
    exact (GdAll.cons h1 (GdAll.append h2 k)).mono (by omega) (by omega)
theorem GdAll.split {m : Nat} : ∀ {n : Nat} (xs : List PyData) {ys : List PyData}, GdAll n m (xs ++ ys) → ∃ a b, a + b ≤ n ∧ GdAll a m xs ∧ GdAll b m ys
  | n, [], _, h => ⟨0, n, by omega, .nil, h⟩
  | n, x :: xs, _, h => by
    obtain ⟨u, v, e, h1, h2⟩ := GdAll.head (show GdAll n m (x :: (xs ++ _)) from h)
    obtain ⟨a, b, e2, k1, k2⟩ := GdAll.split xs h2
    exact ⟨u + 1 + a, b, by omega, .cons h1 k1, k2⟩
theorem GdAll.cut {n m : Nat} {ds : List PyData} (i : Nat) (h : GdAll n m ds) : ∃ a b, a + b ≤ n ∧ GdAll a m (ds.take i) ∧ GdAll b m (ds.drop i) := by
  rw [← List.take_append_drop i ds] at h
  exact GdAll.split _ h
theorem GdAll.take {n m : Nat} {ds : List PyData} (i : Nat) (h : GdAll n m ds) : GdAll n m (ds.take i) := by
  obtain ⟨a, b, e, h1, _⟩ := h.cut i
  exact h1.mono (by omega) (by omega)
theorem GdAll.drop {n m : Nat} {ds : List PyData} (i : Nat) (h : GdAll n m ds) : GdAll n m (ds.drop i) := by
  obtain ⟨a, b, e, _, h1⟩ := h.cut i
  exact h1.mono (by omega) (by omega)
theorem GdAll.rev {m : Nat} : ∀ {n : Nat} {ds : List PyData}, GdAll n m ds → GdAll n m ds.reverse
  | _, [], h => h
  | n, x :: xs, h => by
    obtain ⟨u, v, e, h1, h2⟩ := h.head
    rw [List.reverse_cons]
    exact ((GdAll.rev h2).append (GdAll.cons h1 (GdAll.nil (n := 0)))).mono (by omega) (by omega)
theorem GdAll.get {m : Nat} : ∀ {n : Nat} {ds : List PyData} {i : Nat} {d : PyData}, GdAll n m ds → ds[i]? = some d → Gd n m d
  | _, [], _, _, _, e => by simp at e
  | n, x :: xs, 0, d, h, e => by
    obtain ⟨u, v, e2, h1, h2⟩ := h.head
    cases (Option.some.inj e)
    exact h1.mono (by omega) (by omega)
  | n, x :: xs, i + 1, d, h, e => by
    obtain ⟨u, v, e2, h1, h2⟩ := h.head
    exact (GdAll.get (i := i) h2 (show xs[i]? = some d from e)).mono (by omega) (by omega)
theorem Gd.tup {n m : Nat} {ds : List PyData} (h : GdAll n m ds) : Gd n (m + 1) (.tuple ds) := by
  obtain ⟨h1, h2, h3, h4⟩ := h
  exact ⟨by simp only [PyData.showable]; exact h1, by simp only [PyData.leavesShort]; exact h2, by simp only [PyData.weight]; exact h3, by simp only [PyData.depth]; omega⟩
theorem Gd.lst {n m : Nat} {ds : List PyData} (h : GdAll n m ds) : Gd n (m + 1) (.list ds) := by
  obtain ⟨h1, h2, h3, h4⟩ := h
  exact ⟨by simp only [PyData.showable]; exact h1, by simp only [PyData.leavesShort]; exact h2, by simp only [PyData.weight]; exact h3, by simp only [PyData.depth]; omega⟩
theorem Gd.of_tup {n m : Nat} {ds : List PyData} (h : Gd n m (.tuple ds)) : GdAll n m ds := by
  obtain ⟨h1, h2, h3, h4⟩ := h
  simp only [PyData.showable] at h1
  simp only [PyData.leavesShort] at h2
  simp only [PyData.weight] at h3
  simp only [PyData.depth] at h4
  exact ⟨h1, h2, h3, by omega⟩
theorem Gd.shown {n m : Nat} {d : PyData} (h : Gd n m d) (hn : n ≤ 100000) : d.shown.length ≤ sizeLine := by
  have z := PyData.shown_le 120 (by decide) d h.2.1
  have k := h.2.2.1
  have e : sizeLine = 16777216 := by decide
  omega
theorem Gd.int {i : Int} {k : Nat} (hk : 0 < k) (hk2 : k ≤ 110) (h : i.natAbs < 2 ^ k) : Gd (k + 1) 0 (.int i) := by
  refine ⟨?_, ?_, ?_, ?_⟩
  · simp only [PyData.showable, decide_eq_true_eq]
    exact Nat.lt_of_lt_of_le (PySem.Flt.log2_lt_of hk h) (by omega)
  · simp only [PyData.leavesShort, decide_eq_true_eq]
    have z := PySem.Flt.log2_lt_of hk h
    have e := int_text_length_le (a := i) (k := k) hk z
    show (Str.ofString (toString i)).length ≤ 120
    rw [PySem.ofString_length]
    omega
  · have z := PySem.Flt.log2_lt_of hk h
    simp only [PyData.weight]
    split <;> omega
  · simp [PyData.depth]
/-! ### the mathematics -/
def isInt : PyData → Bool
  | .int _ => true
  | _ => false
def isTup : PyData → Bool
  | .tuple _ => true
  | _ => false
def isNumD (p : Int) : PyData → Bool
  | .int i => decide (0 ≤ i) && decide (i < p)
  | _ => false
def isPairD (p : Int) : PyData → Bool
  | .tuple [x, y] => isNumD p x && isNumD p y
  | _ => false
def isRowD (p n : Int) : PyData → Bool
  | .tuple ds => decide ((ds.length : Int) = n) && ds.all (isPairD p)
  | _ => false
theorem Dq.ty {K : PySem.W.Frag} {H : Hp} {x : V} {d : PyData} (h : Dq H x d) : ∃ t, TyB1 K H x t ∧ (isB t "int" && !isB t "bool") = isInt d ∧ isB t "tuple" = isTup d := by
  cases h with
  | non => exact ⟨"NoneType", ⟨.base .non, by simp⟩, by decide +kernel, by decide +kernel⟩
  | bl b => exact ⟨"bool", ⟨.base (.bl b), by simp⟩, (by show (isB "bool" "int" && !isB "bool" "bool") = false; decide +kernel), (by show isB "bool" "tuple" = false; decide +kernel)⟩
  | int i => exact ⟨"int", ⟨.base (.int i), by simp⟩, (by show (isB "int" "int" && !isB "int" "bool") = true; decide +kernel), (by show isB "int" "tuple" = false; decide +kernel)⟩
  | str z => exact ⟨"str", ⟨.base (.str z), by simp⟩, (by show (isB "str" "int" && !isB "str" "bool") = false; decide +kernel), (by show isB "str" "tuple" = false; decide +kernel)⟩
  | lst e k => exact ⟨"list", ⟨.base (.lst e), by simp⟩, (by show (isB "list" "int" && !isB "list" "bool") = false; decide +kernel), (by show isB "list" "tuple" = false; decide +kernel)⟩
  | tup e k => exact ⟨"tuple", ⟨.base (.tup e), by simp⟩, (by show (isB "tuple" "int" && !isB "tuple" "bool") = false; decide +kernel), (by show isB "tuple" "tuple" = true; decide +kernel)⟩
  | dic e => exact ⟨"dict", ⟨.base (.dK e), by simp⟩, (by show (isB "dict" "int" && !isB "dict" "bool") = false; decide +kernel), (by show isB "dict" "tuple" = false; decide +kernel)⟩
theorem isInt_of {H : Hp} {x : V} {d : PyData} (h : Dq H x d) (e : isInt d = true) : ∃ i, x = .int i ∧ d = .int i := by
  cases h <;> first | exact ⟨_, rfl, rfl⟩ | cases e
theorem isTup_of {H : Hp} {x : V} {d : PyData} (h : Dq H x d) (e : isTup d = true) : ∃ a xs ds, x = .ref a ∧ H a = some (.tup xs) ∧ DqAll H xs ds ∧ d = .tuple ds := by
  cases h <;> first | exact ⟨_, _, _, rfl, by assumption, by assumption, rfl⟩ | cases e
theorem num_false {p : Int} {d : PyData} (e : isInt d = false) : isNumD p d = false := by
  cases d <;> first | rfl | cases e
theorem row_false {p n : Int} {d : PyData} (e : isTup d = false) : isRowD p n d = false := by
  cases d <;> first | rfl | cases e
theorem pair_false {p : Int} {d : PyData} (e : isTup d = false) : isPairD p d = false := by
  cases d <;> first | rfl | cases e
theorem pair_len {p : Int} {ds : List PyData} (e : ¬ ((ds.length : Int) = 2)) : isPairD p (.tuple ds) = false := by
  match ds, e with
  | [], _ => rfl
  | [_], _ => rfl
  | [_, _], e => exact absurd rfl e
  | _ :: _ :: _ :: _, _ => rfl
theorem two_of {ds : List PyData} (e : (ds.length : Int) = 2) : ∃ x y, ds = [x, y] := by
  match ds, e with
  | [x, y], _ => exact ⟨x, y, rfl⟩
  | [], e => cases e
  | [_], e => cases e
  | _ :: _ :: _ :: r, e =>
    have e2 : ((r.length + 3 : Nat) : Int) = 2 := e
    omega
/-! ### t[::-1], t == () -/
section
open PySem.Spec PyProof.Rows PySem.Builtin HT
variable {prog : Program} {w : World} {A : Around} {E : Value → Shared → Prop} {s : Shared}
theorem adjust_back (n : Nat) : Slice.sliceAdjust none none (-1) (n : Int) = ((n : Int) - 1, -1) := by
  unfold Slice.sliceAdjust
  simp
theorem places_back (n : Nat) : Slice.slicePlaces ((n : Int) - 1) (-1) (-1) = n := by
  unfold Slice.slicePlaces
  rw [if_neg (by decide)]
  split
  · simp
  · omega
theorem applied_back {sl : Addr} {t : Tok} {n : Nat} {Q : Int × Int × Nat → Shared → Prop} (hs : s.heap.IsSliceOf sl .none .none (.int (-1) t))
    (h : Q ((n : Int) - 1, -1, n) s) : wpAny (model prog w) A (Slice.sliceApplied (.ref sl) (pure (n : Int))) Q E s := by
  obtain ⟨os, hos, hcs, hds⟩ := id hs
  unfold Slice.sliceApplied Slice.sliceFields
  refine wpAny_bind (wpAny_bind (wpAny_field hos hds (x := .none) rfl ?_))
  refine wpAny_bind (wpAny_field hos hds (x := .none) rfl ?_)
  refine wpAny_bind (wpAny_field hos hds (x := .int (-1) t) rfl (wpAny_pure ?_))
  refine wpAny_bind (slicePart_int ?_)
  show wpAny _ _ (if ((-1 : Int) == 0) = true then _ else _) _ _ s
  rw [if_neg (by decide)]
  refine wpAny_bind (slicePart_none ?_)
  refine wpAny_bind (slicePart_none ?_)
  refine wpAny_bind (wpAny_pure ?_)
  show wpAny _ _ (match Slice.sliceAdjust none none (-1) (n : Int) with | (lo, hi) => pure (lo, (-1 : Int), Slice.slicePlaces lo hi (-1))) _ _ s
  rw [adjust_back]
  show wpAny _ _ (pure ((n : Int) - 1, (-1 : Int), Slice.slicePlaces ((n : Int) - 1) (-1) (-1))) _ _ s
  rw [places_back]
  exact wpAny_pure h
theorem fm_some {α β : Type} (f : α → Option β) (g : α → β) : ∀ l : List α, (∀ x ∈ l, f x = some (g x)) → l.filterMap f = l.map g
  | [], _ => rfl
  | x :: r, h => by
    rw [List.filterMap_cons, h x (List.mem_cons_self ..), fm_some f g r fun y hy => h y (List.mem_cons_of_mem _ hy)]
    rfl
theorem pick_back (xs : Array Value) : ((List.range xs.size).filterMap fun (m : Nat) => xs[(((xs.size : Int) - 1) + (m : Int) * (-1)).toNat]?).toArray = xs.toList.reverse.toArray := by
  congr 1
  rw [fm_some _ (fun m => xs.toList.getD (xs.size - 1 - m) Value.none) _ fun m hm => ?_]
  · apply List.ext_getElem?
    intro i
    rw [List.getElem?_map]
    by_cases h : i < xs.size
    · have hr : (List.range xs.size)[i]? = some i := List.getElem?_range h
      rw [hr, List.getElem?_reverse (by rw [Array.length_toList]; exact h), Array.length_toList]
      have h2 : xs.size - 1 - i < xs.toList.length := by
        rw [Array.length_toList]
        omega
      show some (xs.toList.getD (xs.size - 1 - i) Value.none) = _
      rw [List.getD_eq_getElem?_getD, List.getElem?_eq_getElem h2]
      rfl
    · rw [List.getElem?_eq_none (by rw [List.length_range]; omega), List.getElem?_eq_none (by rw [List.length_reverse, Array.length_toList]; omega)]
      rfl
  · have h := List.mem_range.mp hm
    have e : (((xs.size : Int) - 1) + (m : Int) * (-1)).toNat = xs.size - 1 - m := by omega
    have h2 : xs.size - 1 - m < xs.toList.length := by
      rw [Array.length_toList]
      omega
    rw [e, ← Array.getElem?_toList, List.getD_eq_getElem?_getD, List.getElem?_eq_getElem h2]
    rfl
theorem item_back {t sl : Addr} {items : Array Value} {tk : Tok} {Q : Value → Shared → Prop} (ht : IsTup s.heap t items) (hs : s.heap.IsSliceOf sl .none .none (.int (-1) tk))
    (h : Q (.ref s.heap.objs.size) { s with heap := s.heap.push { cls := .type "tuple", data := .seq items.toList.reverse.toArray } })
    (hsz : items.size ≤ sizeLine) : wpAny (model prog w) A (getItem (.ref t) (.ref sl)) Q E s := by
  have fits : sizeOk (.seq items.toList.reverse.toArray) := by
    show items.toList.reverse.toArray.size ≤ sizeLine
    rw [List.size_toArray, List.length_reverse, Array.length_toList]
    exact hsz
  obtain ⟨os, hos, hcs, hds⟩ := id hs
  have ty : s.TypeIs (.ref sl) "slice" := ⟨os, hos, hcs⟩
  unfold getItem
  try with_reducible refine wpAny_holding ?_
  first
  | refine wpAny_bind (wpAny_pure ?_)
  | skip
  refine wpAny_bind (wpAny_sequenceKey ht.typeIs (by decide) ?_)
  refine wpAny_bind (wpAny_callSpecial?_slot (name := Str.ofString "__getitem__") ht.typeIs slot_tuple_getitem ?_)
  refine wpAny_call_entry slot_tuple_getitem ht.typeIs entry_tuple_getitem ?_ (args_tuple_getitem _ _)
  show wpAny _ _ (Tuple.tupleItemsOf (.ref t) >>= _) _ _ s
  refine wpAny_bind (tupleItemsOf_ ht ?_)
  refine wpAny_bind (wpAny_typeOf ty ?_)
  rw [if_pos (by decide)]
  refine wpAny_bind (applied_back hs ?_)
  have no : ¬ ((((items.size : Int) - 1) == 0 && (-1 : Int) == 1 && items.size == items.size) = true) := by
    intro z
    rw [Bool.and_eq_true, Bool.and_eq_true] at z
    exact absurd (eq_of_beq z.1.2) (by decide)
  show wpAny _ _ (if (((items.size : Int) - 1) == 0 && (-1 : Int) == 1 && items.size == items.size) = true then _ else _) _ _ s
  rw [if_neg no, pick_back]
  first
  | exact wpAny_bind (m := Tuple.tupleExact _) (wpAny_newObj_type (wpAny_pure ⟨_, rfl, wpAny_pure h⟩) fits)
  | exact wpAny_bind (m := Tuple.tupleExact _) (wpAny_newObj_type (wpAny_bind (wpAny_pure (wpAny_pure ⟨_, rfl, wpAny_pure h⟩))) fits)
  | exact wpAny_bind (wpAny_bind (m := Tuple.tupleExact _) (wpAny_newObj_type (wpAny_pure (wpAny_pure ⟨_, rfl, wpAny_pure h⟩)) fits))
  | exact wpAny_bind (wpAny_bind (m := Tuple.tupleExact _) (wpAny_newObj_type (wpAny_pure ⟨_, rfl, wpAny_pure h⟩) fits))
end
section
open PySem.Spec PyProof.Rows
variable {X : Cx}
def tRevT (K : PySem.W.Frag) (te : TE) : TE := fun σ H Q => te σ H fun x H1 => ∃ a xs, x = .ref a ∧ SqT K H1 a xs ∧ ∀ p, H1 p = none → Q (.ref p) (upd H1 p (.tup xs.reverse))
theorem pe_revT {e : Expr} {te : TE} {k : Nat} {p1 p2 p3 pos : Pos} (he : PE X e te) : PE X (.Subscript e (.Slice none none (some (.UnaryOp .USub (.Constant (.int 1) k p1) p2)) p3) pos) (tRevT X.K te) := by
  refine ⟨fun pins s σ H Q I h => Subscript_ (thn (he.run pins s σ H _ I h) fun v s1 ⟨x, H1, I1, r1, a, xs, ex, hx, q⟩ => ?_)⟩
  subst ex
  cases r1
  have back : PO X (some (.UnaryOp .USub (.Constant (.int 1) k p1) p2)) (tPart (tUn (rU fun i => .int (-i)) (tC (.int 1)))) := po_some (pe_un un_neg pe_int)
  refine wpAny_Slice (thn (po_none.run pins s1 σ H1 (fun o G => o = none ∧ G = H1) I1 ⟨rfl, rfl⟩) fun v1 s2 ⟨o1, G1, I2, part1, e1, g1⟩ => ?_)
  subst e1 g1
  refine thn (po_none.run pins s2 σ G1 (fun o G => o = none ∧ G = G1) I2 ⟨rfl, rfl⟩) fun v2 s3 ⟨o2, G2, I3, part2, e2, g2⟩ => ?_
  subst e2 g2
  refine thn (back.run pins s3 σ G2 (fun o G => o = some (-1) ∧ G = G2) I3 ⟨1, rfl, -1, rfl, rfl, rfl⟩) fun v3 s4 ⟨o3, G3, I4, part3, e3, g3⟩ => ?_
  subst e3 g3
  cases part1
  cases part2
  cases part3 with
  | int i tk =>
    have I5 : L2.Inv X pins σ G3 { s4 with heap := s4.heap.push { cls := .type "slice", data := .fields #[.none, .none, .int (-1) tk] } } := I4.kept (t' := s4.toks) fun b ob z => Heap.get?_push_of_some _ z
    obtain ⟨its, r, ht, hz⟩ := I5.tuple hx
    have hlen := r.length
    show wpAny (model X.prog X.w) X.A (subscriptTail e _ (.ref a) (.ref s4.heap.objs.size)) (EP X pins σ Q) X.xe _
    refine tail_any (ops := [.ref a, .ref s4.heap.objs.size]) ht.typeIs slot_tuple_getitem.lookup ?_ (by with_unfolding_all rfl)
    refine item_back ht (Heap.IsSliceOf.new _ .none .none (.int (-1) tk)) ?_ (by rw [List.size_toArray]; omega)
    refine ⟨.ref _, _, I5.laid (t' := s4.toks) (o := .tup xs.reverse) (fun b ob z => Heap.get?_push_of_some _ z) (Nat.le_refl _) ?_, rfl, q _ (I5.hok.fresh (Nat.le_refl _))⟩
    exact ⟨by rw [List.length_reverse]; exact hz, its.reverse, r.reverse, _, Heap.get?_push_size _ rfl, rfl, _, rfl⟩
/-- t == u for tuples of which the second is empty -/
theorem op_eqT0 (hu : X.A.units + 80 < cLine) : OpR X (compareOp .Eq) (fun x y H Q => ∃ a b xs, x = .ref a ∧ y = .ref b ∧ SqT X.K H a xs ∧ SqT X.K H b [] ∧ Q (.bl xs.isEmpty) H) := by
  intro pins s σ H x y v u Q I rx ry h
  obtain ⟨a, b, xs, rfl, rfl, ha, hb, q⟩ := h
  cases rx
  cases ry
  obtain ⟨its, r, ht, hz⟩ := I.tuple ha
  obtain ⟨its2, r2, ht2, _⟩ := I.tuple hb
  cases r2
  refine SeqAt.eq_tupleAt (e := fun _ => true) ht ht2 (by omega) (fun j h1 h2 => absurd h2 (by simp)) ?_
  refine ⟨.bl xs.isEmpty, H, I, ?_, q⟩
  cases r with
  | nil => rfl
  | cons _ _ =>
    simp
    rfl
end
/-! ### xs == [], xs != [] of lists of anything -/
section
open PySem.Spec PyProof.Rows
variable {X : Cx}
def rEqL0 (K : PySem.W.Frag) : R2 := fun x y H Q => ∃ a b xs, x = .ref a ∧ y = .ref b ∧ SqL K H a xs ∧ SqL K H b [] ∧ Q (.bl xs.isEmpty) H
def rNeL0 (K : PySem.W.Frag) : R2 := fun x y H Q => ∃ a b xs, x = .ref a ∧ y = .ref b ∧ SqL K H a xs ∧ SqL K H b [] ∧ Q (.bl (!xs.isEmpty)) H
theorem op_eqL0 (hu : X.A.units + 80 < cLine) : OpR X (compareOp .Eq) (rEqL0 X.K) := by
  intro pins s σ H x y v u Q I rx ry h
  obtain ⟨a, b, xs, rfl, rfl, ha, hb, q⟩ := h
  cases rx
  cases ry
  obtain ⟨its, r, ht, hz⟩ := I.list ha
  obtain ⟨its2, r2, ht2, _⟩ := I.list hb
  cases r2
  cases r with
  | nil => exact SeqAt.eq_listAt (e := fun _ => true) ht.isList ht2.isList rfl (by omega) (fun j h1 h2 => absurd h2 (by simp)) ⟨.bl true, H, I, rfl, q⟩
  | cons _ _ => exact SeqAt.eq_list_lengthsAt ht.isList ht2.isList (by simp) (by omega) ⟨.bl false, H, I, rfl, q⟩
theorem op_neL0 (hu : X.A.units + 80 < cLine) : OpR X (compareOp .NotEq) (rNeL0 X.K) := by
  intro pins s σ H x y v u Q I rx ry h
  obtain ⟨a, b, xs, rfl, rfl, ha, hb, q⟩ := h
  cases rx
  cases ry
  obtain ⟨its, r, ht, hz⟩ := I.list ha
  obtain ⟨its2, r2, ht2, _⟩ := I.list hb
  cases r2
  cases r with
  | nil => exact SeqAt.RcNeAt.lists (e := fun _ => true) ht.isList ht2.isList rfl (by omega) (fun j h1 h2 => absurd h2 (by simp)) _ _ _ _ ⟨.bl false, H, I, rfl, q⟩
  | cons _ _ => exact SeqAt.RcNeAt.lists_lengths ht.isList ht2.isList (by simp) (by omega) _ _ _ _ ⟨.bl true, H, I, rfl, q⟩
end
/-! ### things beside the deck -/
def cut (d g : Addr) (H : Hp) : Hp := fun a => if a = d ∨ a = g then none else H a
theorem cut_same {d g : Addr} {H : Hp} : Same (cut d g H) H := fun a o e => by
  unfold cut at e
  split at e
  · cases e
  · exact e
theorem cut_at {d g a : Addr} {H : Hp} {o : HO} (h1 : a ≠ d) (h2 : a ≠ g) (e : H a = some o) : cut d g H a = some o := by
  unfold cut
  rw [if_neg (fun z => z.elim h1 h2)]
  exact e
theorem Fr.cut {d g : Addr} {H H' : Hp} (f : Fr d g H H') : Same (cut d g H) (cut d g H') := fun a o e => by
  unfold Kp.cut at e ⊢
  split at e
  · cases e
  · rename_i n
    rw [if_neg n]
    exact f a o (fun z => n (.inl z)) (fun z => n (.inr z)) e
theorem cut_upd {d g L : Addr} {H : Hp} {o : HO} : Fr L L (cut d g H) (cut d g (upd H L o)) := fun a x h1 _ e => by
  unfold Kp.cut at e ⊢
  split at e
  · cases e
  · rename_i n
    rw [if_neg n, upd_ne h1]
    exact e
def Thg (d g : Addr) (n m : Nat) (H : Hp) (x : V) : Prop := ∃ dd, Dq (cut d g H) x dd ∧ Gd n m dd
def Ths (d g : Addr) (n m : Nat) (H : Hp) (xs : List V) : Prop := ∃ ds, DqAll (cut d g H) xs ds ∧ GdAll n m ds
section
variable {d g c : Addr} {k : Int} {n m n' m' : Nat} {H H' : Hp} {x : V} {xs ys : List V}
theorem Thg.fr (h : Thg d g n m H x) (f : Fr d g H H') : Thg d g n m H' x := let ⟨dd, h1, h2⟩ := h; ⟨dd, h1.same f.cut, h2⟩
theorem Ths.fr (h : Ths d g n m H xs) (f : Fr d g H H') : Ths d g n m H' xs := let ⟨dd, h1, h2⟩ := h; ⟨dd, h1.same f.cut, h2⟩
theorem Thg.mono (h : Thg d g n m H x) (a : n ≤ n') (b : m ≤ m') : Thg d g n' m' H x := let ⟨dd, h1, h2⟩ := h; ⟨dd, h1, h2.mono a b⟩
theorem Ths.mono (h : Ths d g n m H xs) (a : n ≤ n') (b : m ≤ m') : Ths d g n' m' H xs := let ⟨dd, h1, h2⟩ := h; ⟨dd, h1, h2.mono a b⟩
theorem Ths.nil : Ths d g n m H [] := ⟨[], .nil, .nil⟩
theorem Ths.cons (h : Thg d g n m H x) (t : Ths d g n' m H xs) : Ths d g (n + 1 + n') m H (x :: xs) := let ⟨a, h1, h2⟩ := h; let ⟨b, t1, t2⟩ := t; ⟨a :: b, .cons h1 t1, .cons h2 t2⟩
theorem Ths.append (h : Ths d g n m H xs) (t : Ths d g n' m H ys) : Ths d g (n + n') m H (xs ++ ys) := let ⟨a, h1, h2⟩ := h; let ⟨b, t1, t2⟩ := t; ⟨a ++ b, h1.append t1, h2.append t2⟩
theorem Ths.cutV (h : Ths d g n m H xs) (lo hi : Option Int) : Ths d g n m H (cutV xs lo hi) := let ⟨_, h1, h2⟩ := h; ⟨_, (h1.drop _).take _, (h2.drop _).take _⟩
theorem Ths.rev (h : Ths d g n m H xs) : Ths d g n m H xs.reverse := let ⟨_, h1, h2⟩ := h; ⟨_, h1.rev, h2.rev⟩
theorem Ths.get {i : Nat} (h : Ths d g n m H xs) (e : xs[i]? = some x) : Thg d g n m H x := by
  obtain ⟨ds, h1, h2⟩ := h
  obtain ⟨dd, e1, e2⟩ := h1.get e
  exact ⟨dd, e2, h2.get e1⟩
theorem GdAll.len {m : Nat} : ∀ {n : Nat} {ds : List PyData}, GdAll n m ds → ds.length ≤ n
  | _, [], _ => Nat.zero_le _
  | n, _ :: r, h => by
    obtain ⟨u, v, e, h1, h2⟩ := h.head
    have z := GdAll.len h2
    show r.length + 1 ≤ n
    omega
theorem Ths.len (h : Ths d g n m H xs) : xs.length ≤ n := by
  obtain ⟨ds, h1, h2⟩ := h
  rw [h1.length]
  exact h2.len
theorem Thg.newT {p : Addr} (D : Dk d g c k H) (hp : H p = none) (h : Ths d g n m H xs) : Thg d g n (m + 1) (upd H p (.tup xs)) (.ref p) := by
  obtain ⟨ds, h1, h2⟩ := h
  have np := D.nd hp
  exact ⟨.tuple ds, .tup (cut_at np.1 np.2.1 upd_same) (h1.same (Fr.new hp).cut), .tup h2⟩
theorem Thg.newL {p : Addr} (D : Dk d g c k H) (hp : H p = none) (h : Ths d g n m H xs) : Thg d g n (m + 1) (upd H p (.lst xs)) (.ref p) := by
  obtain ⟨ds, h1, h2⟩ := h
  have np := D.nd hp
  exact ⟨.list ds, .lst (cut_at np.1 np.2.1 upd_same) (h1.same (Fr.new hp).cut), .lst h2⟩
theorem Thg.tupOf {a : Addr} (e : H a = some (.tup xs)) (h1 : a ≠ d) (h2 : a ≠ g) (t : Ths d g n m H xs) : Thg d g n (m + 1) H (.ref a) := by
  obtain ⟨ds, k1, k2⟩ := t
  exact ⟨.tuple ds, .tup (cut_at h1 h2 e) k1, .tup k2⟩
theorem Thg.int {i : Int} (h : i.natAbs < 2 ^ 110) : Thg d g 111 m H (.int i) := ⟨.int i, .int i, (Gd.int (by decide) (by decide) h).mono (Nat.le_refl _) (Nat.zero_le _)⟩
theorem Thg.small {i : Int} (h : i.natAbs < 16) : Thg d g 5 m H (.int i) := ⟨.int i, .int i, (Gd.int (k := 4) (by decide) (by decide) h).mono (Nat.le_refl _) (Nat.zero_le _)⟩
theorem Ths.pick {r : Int} (h : Ths d g n m H xs) (h0 : 0 ≤ r) (h1 : r < xs.length) : ∃ y, atI xs r = some y ∧ Thg d g n m H y := by
  obtain ⟨j, rfl⟩ := Int.eq_ofNat_of_zero_le h0
  have hj : j < xs.length := by omega
  exact ⟨xs[j], atI_nat (List.getElem?_eq_getElem hj), h.get (List.getElem?_eq_getElem hj)⟩
theorem Ths.at_ {r : Int} (h : Ths d g n m H xs) (h0 : 0 ≤ r) (h1 : r < xs.length) : ∃ y, atI xs r = some y ∧ Thg d g n m H y := h.pick h0 h1
theorem Thg.bl {b : Bool} : Thg d g n m H (.bl b) := ⟨.bool b, .bl b, by simp [PyData.showable], by simp [PyData.leavesShort], by simp [PyData.weight], by simp [PyData.depth]⟩
theorem Thg.non : Thg d g n m H .non := ⟨.none, .non, by simp [PyData.showable], by simp [PyData.leavesShort], by simp [PyData.weight], by simp [PyData.depth]⟩
theorem Thg.str {z : Str} (h1 : PyData.leavesShort 120 (.str z) = true) (h2 : z.cps.size ≤ n) : Thg d g n m H (.str z) := ⟨.str z, .str z, by simp [PyData.showable], h1, by simpa [PyData.weight] using h2, by simp [PyData.depth]⟩
theorem Thg.dic {p : Addr} (D : Dk d g c k H) (hp : H p = none) : Thg d g n (m + 1) (upd H p (.dK [])) (.ref p) := by
  have np := D.nd hp
  exact ⟨.dict [], .dic (cut_at np.1 np.2.1 upd_same), by simp [PyData.showable, PyData.showableKv], by simp [PyData.leavesShort, PyData.leavesShortKv], by simp [PyData.weight, PyData.weightKv], by simp [PyData.depth, PyData.depthKv]⟩
/-- its type: a tuple of such, or something else -/
theorem Thg.ty (K : PySem.W.Frag) (h : Thg d g n m H x) : ∃ t, TyB1 K H x t ∧ ((isB t "tuple" = true ∧ ∃ a xs, x = .ref a ∧ H a = some (.tup xs) ∧ Ths d g n m H xs) ∨ isB t "tuple" = false) := by
  obtain ⟨dd, h1, h2⟩ := h
  have h1' := h1.same cut_same
  obtain ⟨t, ty, _, et⟩ := h1'.ty (K := K)
  refine ⟨t, ty, ?_⟩
  cases e : isTup dd with
  | false => exact .inr (et.trans e)
  | true =>
    obtain ⟨a, xs, ds, rfl, ha, hds, rfl⟩ := isTup_of h1 e
    exact .inl ⟨et.trans e, a, xs, rfl, cut_same _ _ ha, ds, hds, h2.of_tup⟩
theorem cat_ok {K : PySem.W.Frag} {a b : Addr} {Q : VK} (D : Dk d g c k H) (ha : H a = some (.tup xs)) (hb : H b = some (.tup ys)) (ta : Ths d g n m H xs) (tb : Ths d g n' m H ys) (hl : n + n' ≤ 100000)
    (q : ∀ (p : Addr) (zs : List V) (H' : Hp), Dk d g c k H' → Fr d g H H' → H' p = some (.tup zs) → Ths d g (n + n') m H' zs → Q (.ref p) H') : rCatA K (.ref a) (.ref b) H Q := by
  have l1 := ta.len
  have l2 := tb.len
  have e : sizeLine = 16777216 := by decide
  refine ⟨a, b, xs, ys, rfl, rfl, SqT.of ha, SqT.of hb, by omega, fun z => ?_, fun _ z => ?_, fun _ _ p hp => ?_⟩
  · exact q b ys H D (Fr.refl _ _ _) hb (tb.mono (by omega) (Nat.le_refl _))
  · exact q a xs H D (Fr.refl _ _ _) ha (ta.mono (by omega) (Nat.le_refl _))
  · exact q p _ _ (D.same (same_upd hp)) (.new hp) upd_same ((ta.append tb).fr (.new hp))
theorem sl_ok {K : PySem.W.Frag} {a : Addr} {lo hi : Option Int} {Q : VK} (D : Dk d g c k H) (ha : H a = some (.tup xs)) (ta : Ths d g n m H xs)
    (q : ∀ (p : Addr) (zs : List V) (H' : Hp), Dk d g c k H' → Fr d g H H' → H' p = some (.tup zs) → Ths d g n m H' zs → Q (.ref p) H') : rSlA K (.ref a) lo hi H Q :=
  ⟨a, xs, rfl, SqT.of ha, fun _ => q a xs H D (Fr.refl _ _ _) ha ta, fun _ p hp => q p _ _ (D.same (same_upd hp)) (.new hp) upd_same ((ta.cutV lo hi).fr (.new hp))⟩
end
/-! readings by the module's own objects, told outright (within comprehensions) -/
def rLen (K : PySem.W.Frag) : List V → Hp → VK → Prop := fun xs H Q => ∃ p ys, xs = [.ref p] ∧ (SqL K H p ys ∨ SqT K H p ys) ∧ Q (.int ys.length) H
def rTupOf (K : PySem.W.Frag) : List V → Hp → VK → Prop := fun xs H Q => ∃ p ys, xs = [.ref p] ∧ ((SqL K H p ys ∧ ∀ l, H l = none → Q (.ref l) (upd H l (.tup ys))) ∨ (SqT K H p ys ∧ Q (.ref p) H))
def rListOf (K : PySem.W.Frag) : List V → Hp → VK → Prop := fun xs H Q => ∃ p ys, xs = [.ref p] ∧ (SqL K H p ys ∨ SqT K H p ys) ∧ ∀ l, H l = none → Q (.ref l) (upd H l (.lst ys))
/-! ### rows: tuples of pairs -/
/-- all but tables stays; tables stay tables -/
structure Sm (H H' : Hp) : Prop where
  kp : ∀ a o, (∀ ps, o ≠ HO.tbl ps) → H a = some o → H' a = some o
  tb : ∀ P, GxR.TabG H P → GxR.TabG H' P
theorem Sm.refl (H : Hp) : Sm H H := ⟨fun _ _ _ e => e, fun _ e => e⟩
theorem Sm.trans {H H1 H2 : Hp} (a : Sm H H1) (b : Sm H1 H2) : Sm H H2 := ⟨fun x o n e => b.kp x o n (a.kp x o n e), fun P e => b.tb P (a.tb P e)⟩
theorem Sm.of_same {H H1 : Hp} (s : Same H H1) : Sm H H1 := ⟨fun x o _ e => s x o e, fun _ ⟨ps, e, t⟩ => ⟨ps, s _ _ e, t⟩⟩
theorem Sm.new {H : Hp} {p : Addr} {o : HO} (h : H p = none) : Sm H (upd H p o) := .of_same (same_upd h)
theorem Sm.tabbed {H H1 : Hp} {P : Addr} (g : GxR.TabG H P) (t : GxR.Tabbed P H H1) : Sm H H1 := by
  obtain ⟨t1, t2⟩ := t
  refine ⟨fun x o n e => ?_, fun R ⟨ps, e, tr⟩ => ?_⟩
  · by_cases h : x = P
    · obtain ⟨ps, e2, _⟩ := g
      rw [h, e2] at e
      cases e
      exact absurd rfl (n ps)
    · rw [t2 x h]
      exact e
  · by_cases h : R = P
    · rw [h]
      exact t1
    · exact ⟨ps, by rw [t2 R h]; exact e, tr⟩
theorem Sm.tup {H H1 : Hp} (s : Sm H H1) {a : Addr} {xs : List V} (e : H a = some (.tup xs)) : H1 a = some (.tup xs) := s.kp _ _ (fun _ z => by cases z) e
theorem Sm.lst {H H1 : Hp} (s : Sm H H1) {a : Addr} {xs : List V} (e : H a = some (.lst xs)) : H1 a = some (.lst xs) := s.kp _ _ (fun _ z => by cases z) e
/-- a list that is written while all else stays -/
theorem Sm.put {H H1 : Hp} {L : Addr} {o : HO} (s : Sm H H1) (h : H L = none) : Sm H (upd H1 L o) := by
  refine ⟨fun x u n e => ?_, fun R ⟨ps, e, t⟩ => ?_⟩
  · rw [upd_ne (ne_of_none e h)]
    exact s.kp _ _ n e
  · obtain ⟨qs, e2, t2⟩ := s.tb R ⟨ps, e, t⟩
    exact ⟨qs, by rw [upd_ne (ne_of_none e h)]; exact e2, t2⟩
abbrev Row := List (Int × Int)
def Pr (H : Hp) (x : V) (u : Int × Int) : Prop := ∃ a, x = .ref a ∧ H a = some (.tup [.int u.1, .int u.2])
structure Prs (H : Hp) (xs : List V) (r : Row) : Prop where
  len : xs.length = r.length
  get : ∀ {i : Nat} {x : V}, xs[i]? = some x → ∃ u, r[i]? = some u ∧ Pr H x u
def Rw (H : Hp) (t : Addr) (r : Row) : Prop := ∃ xs, H t = some (.tup xs) ∧ Prs H xs r
theorem Pr.sm {H H1 : Hp} {x : V} {u : Int × Int} (h : Pr H x u) (s : Sm H H1) : Pr H1 x u := let ⟨a, e, h⟩ := h; ⟨a, e, s.tup h⟩
theorem Prs.sm {H H1 : Hp} {xs : List V} {r : Row} (h : Prs H xs r) (s : Sm H H1) : Prs H1 xs r := ⟨h.len, fun e => let ⟨u, e2, p⟩ := h.get e; ⟨u, e2, p.sm s⟩⟩
theorem Rw.sm {H H1 : Hp} {t : Addr} {r : Row} (h : Rw H t r) (s : Sm H H1) : Rw H1 t r := let ⟨xs, e, p⟩ := h; ⟨xs, s.tup e, p.sm s⟩
theorem Prs.nil {H : Hp} : Prs H [] [] := ⟨rfl, fun {i x} e => by simp at e⟩
theorem Prs.snoc {H : Hp} {xs : List V} {r : Row} {x : V} {u : Int × Int} (h : Prs H xs r) (p : Pr H x u) : Prs H (xs ++ [x]) (r ++ [u]) := by
  refine ⟨by simp [h.len], fun {i y} e => ?_⟩
  by_cases hi : i < xs.length
  · rw [List.getElem?_append_left hi] at e
    rw [List.getElem?_append_left (by rw [← h.len]; exact hi)]
    exact h.get e
  · rw [List.getElem?_append_right (by omega)] at e
    rw [List.getElem?_append_right (by rw [← h.len]; omega), ← h.len]
    cases hk : i - xs.length with
    | zero =>
      rw [hk] at e
      cases e
      exact ⟨u, rfl, p⟩
    | succ m =>
      rw [hk] at e
      simp at e
theorem take_snoc {α : Type} {xs : List α} {i : Nat} {u : α} (e : xs[i]? = some u) : xs.take (i + 1) = xs.take i ++ [u] := by
  rw [List.take_add_one, e]
  rfl
/-! walks -/
section
variable {K : PySem.W.Frag} {a b : Addr} {xs ys : List V} {g : TG} {tt : TT} {te : TE} {vs : List Nat} {σ : L2.St} {Hs : Hp}
theorem gx_tup {Q : List V → Hp → Prop} (Pv : Nat → List V → Hp → Prop) (h0 : Pv 0 [] Hs) (hl : ∀ i zs H, i ≤ xs.length → Pv i zs H → SqT K H a xs)
    (hs : ∀ i x zs H, xs[i]? = some x → Pv i zs H → g x (wipe σ vs) H fun σ2 H2 => wipe σ2 vs = wipe σ vs ∧ te σ2 H2 fun y H3 => zs.length < sizeLine ∧ Pv (i + 1) (zs ++ [y]) H3) (hd : ∀ zs H, Pv xs.length zs H → Q zs H) :
    ∃ W : Nat → Nat → List V → Hp → Prop, (∃ m, W 0 m [] Hs) ∧ Gx.Turns (Itt K a) g te vs σ Q W := by
  refine ⟨fun i m zs H => m = xs.length - i ∧ i ≤ xs.length ∧ Pv i zs H, ⟨xs.length, by simp, Nat.zero_le _, h0⟩, ?_⟩
  rintro i m zs H ⟨rfl, hi, p⟩
  have q := hl i zs H hi p
  by_cases hlt : i < xs.length
  · refine .inr ⟨⟨xs, xs[i], q, by simp [hlt]⟩, Pv (i + 1), fun zs H' p' => ⟨xs.length - (i + 1), by omega, rfl, hlt, p'⟩, fun x H' y => ?_⟩
    obtain ⟨e, y⟩ := y
    subst e
    exact hs i x zs _ (y xs q) p
  · have e : i = xs.length := by omega
    subst e
    exact .inl ⟨⟨xs, q, Nat.le_refl _⟩, hd zs H p⟩
theorem gx_zip {Q : List V → Hp → Prop} (hle : xs.length = ys.length) (Pv : Nat → List V → Hp → Prop) (h0 : Pv 0 [] Hs) (hl : ∀ i zs H, Pv i zs H → SqT K H a xs ∧ SqT K H b ys)
    (hs : ∀ i x y T zs H, xs[i]? = some x → ys[i]? = some y → Pv i zs H → H T = none → g (.ref T) (wipe σ vs) (upd H T (.tup [x, y])) fun σ2 H2 => wipe σ2 vs = wipe σ vs ∧ te σ2 H2 fun y H3 => zs.length < sizeLine ∧ Pv (i + 1) (zs ++ [y]) H3) (hd : ∀ zs H, Pv xs.length zs H → Q zs H) :
    ∃ W : Nat → Nat → List V → Hp → Prop, (∃ m, W 0 m [] Hs) ∧ Gx.Turns (RZ.ItzT K a b) g te vs σ Q W := by
  refine ⟨fun i m zs H => m = xs.length - i ∧ i ≤ xs.length ∧ Pv i zs H, ⟨xs.length, by simp, Nat.zero_le _, h0⟩, ?_⟩
  rintro i m zs H ⟨rfl, hi, p⟩
  obtain ⟨qx, qy⟩ := hl i zs H p
  by_cases hlt : i < xs.length
  · have hx : xs[i]? = some xs[i] := List.getElem?_eq_getElem hlt
    have hlt2 : i < ys.length := by omega
    have hy : ys[i]? = some ys[i] := List.getElem?_eq_getElem hlt2
    refine .inr ⟨⟨xs, ys, _, _, qx, qy, hx, hy⟩, Pv (i + 1), fun zs H' p' => ⟨xs.length - (i + 1), by omega, rfl, hlt, p'⟩, fun v H' y => ?_⟩
    obtain ⟨T, x', y', rfl, hT, rfl, f1, f2⟩ := y
    exact hs i x' y' T zs H (f1 xs qx) (f2 ys qy) p hT
  · have e : i = xs.length := by omega
    subst e
    exact .inl ⟨⟨xs, ys, qx, qy, Or.inl (Nat.le_refl _)⟩, hd zs H p⟩
theorem lc_zip {D : Addr} {Qd : Hp → Prop} (hle : xs.length = ys.length) (Pv : Nat → Hp → Prop) (h0 : Pv 0 (upd Hs D (.lst []))) (hl : ∀ i H, Pv i H → SqT K H a xs ∧ SqT K H b ys)
    (hs : ∀ i x y T H, xs[i]? = some x → ys[i]? = some y → Pv i H → H T = none → g (.ref T) (wipe σ vs) (upd H T (.tup [x, y])) fun σ2 H2 => wipe σ2 vs = wipe σ vs ∧ tt σ2 H2 fun b H3 =>
      if b = true then te σ2 H3 fun y H4 => ∃ acc, H4 D = some (.lst acc) ∧ acc.length < sizeLine ∧ Pv (i + 1) (upd H4 D (.lst (acc ++ [y]))) else Pv (i + 1) H3) (hd : ∀ H, Pv xs.length H → Qd H) :
    ∃ W : Nat → Nat → Hp → Prop, (∃ m, W 0 m (upd Hs D (.lst []))) ∧ ∀ i m H, W i m H →
      ((RZ.ItzT K a b).stop i H ∧ Qd H) ∨ ((RZ.ItzT K a b).go i H ∧ ∃ Nx : Hp → Prop, (∀ H', Nx H' → ∃ m', m' < m ∧ W (i + 1) m' H') ∧ ∀ x H', (RZ.ItzT K a b).yld i H x H' → g x (wipe σ vs) H' fun σ2 H2 => wipe σ2 vs = wipe σ vs ∧ tt σ2 H2 fun b H3 =>
        if b = true then te σ2 H3 fun y H4 => ∃ acc, H4 D = some (.lst acc) ∧ acc.length < sizeLine ∧ Nx (upd H4 D (.lst (acc ++ [y]))) else Nx H3) := by
  refine ⟨fun i m H => m = xs.length - i ∧ i ≤ xs.length ∧ Pv i H, ⟨xs.length, by simp, Nat.zero_le _, h0⟩, ?_⟩
  rintro i m H ⟨rfl, hi, p⟩
  obtain ⟨qx, qy⟩ := hl i H p
  by_cases hlt : i < xs.length
  · have hx : xs[i]? = some xs[i] := List.getElem?_eq_getElem hlt
    have hlt2 : i < ys.length := by omega
    have hy : ys[i]? = some ys[i] := List.getElem?_eq_getElem hlt2
    refine .inr ⟨⟨xs, ys, _, _, qx, qy, hx, hy⟩, Pv (i + 1), fun H' p' => ⟨xs.length - (i + 1), by omega, rfl, hlt, p'⟩, fun v H' y => ?_⟩
    obtain ⟨T, x', y', rfl, hT, rfl, f1, f2⟩ := y
    exact hs i x' y' T H (f1 xs qx) (f2 ys qy) p hT
  · have e : i = xs.length := by omega
    subst e
    exact .inl ⟨⟨xs, ys, qx, qy, Or.inl (Nat.le_refl _)⟩, hd H p⟩
end
/-! a def whose code object is known -/
structure FunC (K : PySem.W.Frag) (x qual : Str) (st : Stmt) (f : Addr) (fd : FuncData) (c : Addr) : Prop where
  ex : ∃ (oc : Value) (od : Option Addr) (kV doc pm : Value) (an : Option Addr) (ct : Value) (osl : Array (Option Value)),
    fd = PySem.W.fnOf x qual (defArgs st) (defBody st) (defScope st) .none kV doc pm an (.ref c) ct ∧ K.lookup f = some ⟨oc, od, .func fd, osl⟩ ∧ PySem.W.codeIn K (.ref c) qual = true
open PySem.Spec PyProof.Rows in
theorem FunC.ok {P : Program} {w : World} {K : PySem.W.Frag} {mg : Str → Option Value} {base : Heap} {x qual : Str} {st : Stmt} {f c : Addr} {fd : FuncData} {N ps : List Str} {k : Nat} {sp : Sp} (F : FunC K x qual st f fd c) (S : FnScope N ps (defScope st)) (len : ∀ vs H Q E, sp vs H Q E → vs.length = ps.length)
    (hbody : ∀ (A : Around) (outer : List Env) (s : Shared) (H : Hp) (vs : List V) (Q : VK) (E : XK), Room k (A.deeper (envOfC qual (defScope st) s.heap.objs.size f (.ref c))) → sp vs H Q E →
      ∃ t, PSs (cxOf CX0 P w K mg base N qual (defScope st) f (.ref c) A outer s H E).nox (defBody st) t ∧ t { nx := fun _ H' => Q .non H', rt := Q } (start N vs) H) : FnOk P w K mg base CX0 (k + 1) f fd ps sp := by
  obtain ⟨oc, od, kV, doc, pm, an, ct, osl, rfl, lk, hcd⟩ := F.ex
  refine fn_of lk hcd S len fun A outer s H vs Q E hr hsp => ?_
  obtain ⟨t, h, q⟩ := hbody A outer s H vs Q E hr hsp
  exact ⟨t, h.nox, q⟩
/-! what is reckoned -/
def addR (p : Int) (r s : Row) : Row := List.zipWith (fun u v => ((u.1 + v.1) % p, (u.2 + v.2) % p)) r s
def timR (p n : Int) (r : Row) : Row := r.map fun u => (n * u.1 % p, n * u.2 % p)
def mets (r s : Row) : List Int := List.zipWith (fun u v => u.1 * v.2 - v.1 * u.2) r s
def metR (p : Int) (r s : Row) : Int := (mets r s).sum % p
def parR (r : Row) (js : List Nat) : Row := js.map fun j => r.getD j (0, 0)
def noR (n : Nat) : Row := List.replicate n (0, 0)
/-- a row of numbers that are no greater than we reckon with -/
def Fit (r : Row) : Prop := r.length ≤ 20 ∧ ∀ u ∈ r, (0 ≤ u.1 ∧ u.1 < 13) ∧ 0 ≤ u.2 ∧ u.2 < 13
theorem Fit.get {r : Row} (h : Fit r) {i : Nat} {u : Int × Int} (e : r[i]? = some u) : (0 ≤ u.1 ∧ u.1 < 13) ∧ 0 ≤ u.2 ∧ u.2 < 13 := h.2 u (List.mem_of_getElem? e)
theorem cmul {a b : Int} (h : 0 ≤ a ∧ a < 13) : CMul a b := .inl ⟨by omega, by omega⟩
theorem small {n : Nat} (h : n ≤ 1000) : n < sizeLine := small1000 h
section
variable {P : Program} {w : World} {K : PySem.W.Frag} {mg : Str → Option Value} {base : Heap} {A : Ad}
/-! ### the deck -/
def spDeck (K : PySem.W.Frag) : Sp := fun vs H Q _ => ∃ (a : Addr) (ns : List Int), vs = [.ref a] ∧ SqL K H a (ns.map V.int) ∧ ns.length ≤ 63 ∧
  ∀ (d g c : Addr) (H' : Hp), Same H H' → H d = none → H g = none → H c = none → Dk d g c 0 H' → Q (.ref d) H'
theorem ok__law_deck (T : Tx K mg A) : FnOk P w K mg base CX0 1 A.f__law_deck A.d__law_deck ["_law_script"] (spDeck K) := by
  refine T.d__law_deck.F.ok sc__law_deck (fun vs H Q E h => ?_) (fun cdv A outer s H vs Q E hr h => ?_)
  · obtain ⟨a, ns, rfl, _⟩ := h
    rfl
  · obtain ⟨a, ns, rfl, hS, hlen, k⟩ := h
    refine ⟨_, (pss_cons (ps_setLc (i := 1) (own := [("_law_cell", 2)]) rfl sc__law_deck.nd rfl rfl (sw_true rfl rfl rfl (by decide +kernel)) (pi_list (pv 0)) (blkOk_by (N := N__law_deck) (sc := defScope s__law_deck) (by decide +kernel)) (fun _ _ _ _ _ => (pg_name (i := 2) sc__law_deck.nd rfl (.inl rfl))) (fun _ _ _ _ _ => pts_nil) (fun _ _ _ _ _ => (pe_callB call_abs (by rfl) T.b_abs PyProof.Rows.boot_abs (pa_cons (pv 2) pa_nil))))
        (pss_one (ps_ret (pe_lst (pa_cons (pe_lc (own := [("_law_cell", 2)]) rfl sc__law_deck.nd (pi_list (pv 1)) (blkOk_by (N := N__law_deck) (sc := defScope s__law_deck) (by decide +kernel)) (fun _ _ _ _ _ => (pg_name (i := 2) sc__law_deck.nd rfl (.inl rfl))) (fun _ _ _ _ _ => (pts_one (pt_cmpR op_ge (pv 2) (pe_op op_pow pe_int pe_int) (nomark _)))) (fun _ _ _ _ _ => (pv 2))) (pa_cons (pe_op op_cat (pv 1) (pe_lst (pa_cons (pe_op op_add (pe_callB call_len_seq (by rfl) T.b_len PySem.boot_len (pa_cons (pv 1) pa_nil)) pe_int) pa_nil))) (pa_cons pe_int pa_nil))))))), ?_⟩
    -- cells = [abs(cell) for cell in script]
    refine ⟨.ref a, rfl, a, rfl, ⟨_, hS⟩, fun D hD => lc_list (xs := ns.map V.int) (fun i H' => Same H H' ∧ ∃ cs : List Int, cs.length = i ∧ H' D = some (.lst (cs.map V.int))) ⟨same_upd hD, [], rfl, upd_same⟩ (fun i H' _ h => h.1.seq hS) ?_ ?_⟩
    · rintro i x H' hi ⟨s1, cs, hc, hDs⟩
      obtain ⟨u, rfl⟩ := int_of_map hi
      have hi63 : i < ns.length := by
        have q := (List.getElem?_eq_some_iff.mp hi).1
        rw [List.length_map] at q
        exact q
      refine ⟨rfl, .int u, rfl, u, rfl, cs.map V.int, hDs, by rw [List.length_map]; exact small1000 (by omega), ?_⟩
      refine ⟨fun b o e => ?_, cs ++ [if u < 0 then -u else u], by rw [List.length_append, hc]; rfl, by rw [upd_same, List.map_append]; rfl⟩
      rw [upd_ne (ne_of_none e hD)]
      exact s1 _ _ e
    · rintro H1 ⟨s1, cs, hc, hDs⟩
      rw [List.length_map] at hc
      -- the great ones
      refine ⟨.ref D, rfl, D, rfl, ⟨_, .inl (.inl hDs)⟩, fun G hG => lc_list (xs := cs.map V.int) (fun i H' => Same H1 H' ∧ ∃ gs : List Int, gs.length ≤ i ∧ H' G = some (.lst (gs.map V.int))) ⟨same_upd hG, [], Nat.le_refl _, upd_same⟩ (fun i H' _ h => h.1.seq (.inl (.inl hDs))) ?_ ?_⟩
      · rintro i x H' hi ⟨s2, gs, hg, hGs⟩
        obtain ⟨u, rfl⟩ := int_of_map hi
        have hi63 : i < cs.length := by
          have q := (List.getElem?_eq_some_iff.mp hi).1
          rw [List.length_map] at q
          exact q
        refine ⟨rfl, .int u, rfl, _, _, rfl, rfl, ⟨by decide, by decide, by decide⟩, u, _, rfl, rfl, _, rfl, ite2 (fun _ => ?_) (fun _ => ?_)⟩
        · refine ⟨.int u, rfl, gs.map V.int, hGs, by rw [List.length_map]; exact small1000 (by omega), fun b o e => ?_, gs ++ [u], ?_, by rw [upd_same, List.map_append]; rfl⟩
          · rw [upd_ne (ne_of_none e hG)]
            exact s2 _ _ e
          · rw [List.length_append, List.length_singleton]
            omega
        · exact ⟨s2, gs, by omega, hGs⟩
      · rintro H2 ⟨s2, gs, hg, hGs⟩
        rw [List.length_map] at hg
        have hD2 : H2 D = some (.lst (cs.map V.int)) := s2 _ _ hDs
        -- cells + [len(cells) + 3]
        refine ⟨.ref D, rfl, .ref D, rfl, D, _, rfl, .inl (.inl (.inl hD2)), _, _, rfl, rfl, (by show 1 ≤ sizeLine; decide), fun p hp => ?_⟩
        have npD : D ≠ p := ne_of_none hD2 hp
        have npG : G ≠ p := ne_of_none hGs hp
        refine ⟨D, p, cs.map V.int, _, rfl, rfl, by rw [upd_ne npD]; exact hD2, upd_same, ?_, fun c hc' => ?_⟩
        · rw [List.length_map]
          exact Nat.le_of_lt (small1000 (by show cs.length + 1 ≤ 1000; omega))
        · have ncp : c ≠ p := fun e => by
            rw [e, upd_same] at hc'
            cases hc'
          have hc2 : H2 c = none := by
            rw [upd_ne ncp] at hc'
            exact hc'
          have ncG : G ≠ c := ne_of_none hGs hc2
          refine ⟨(by show 3 ≤ sizeLine; decide), fun d hd => ?_⟩
          have ndc : d ≠ c := fun e => by
            rw [e, upd_same] at hd
            cases hd
          rw [upd_ne ndc] at hd
          have ndp : d ≠ p := fun e => by
            rw [e, upd_same] at hd
            cases hd
          rw [upd_ne ndp] at hd
          have ndG : G ≠ d := ne_of_none hGs hd
          have s3 : Same H H2 := s1.trans s2
          refine k d G c _ (fun b o e => ?_) (s3.free hd) (s1.free hG) (s3.free hc2) ⟨⟨gs, cs ++ [((cs.length : Nat) : Int) + 3], 0, upd_same, ?_, ?_, ?_, ?_, by decide, by decide⟩, ndG.symm, ndc, ncG⟩
          · have e2 := s3 _ _ e
            rw [upd_ne (ne_of_none e2 hd), upd_ne (ne_of_none e2 hc2), upd_ne (ne_of_none e2 hp)]
            exact e2
          · rw [upd_ne ndG, upd_ne ncG, upd_ne npG]
            exact hGs
          · rw [upd_ne ndc.symm, upd_same, List.map_append, List.length_map]
            rfl
          · rw [List.length_append]
            show 0 < cs.length + 1
            omega
          · rw [List.length_append]
            show cs.length + 1 ≤ 100
            omega
def spNext : Sp := fun vs H Q _ => ∃ (d g c : Addr) (k m : Int), vs = [.ref d, .int m] ∧ 0 < m ∧ m < 1208925819614629174706176 ∧ Dk d g c k H ∧ k ≤ 1000000000 ∧
  ∀ (r : Int) (H' : Hp), 0 ≤ r → r < m → Dk d g c (k + 1) H' → Fr d g H H' → Q (.int r) H'
def lenAt (g : Addr) (H : Hp) : Nat := match H g with
  | some (.lst xs) => xs.length
  | _ => 0
theorem lenAt_of {g : Addr} {H : Hp} {xs : List V} (h : H g = some (.lst xs)) : lenAt g H = xs.length := by
  unfold lenAt
  rw [h]
theorem ok__law_next (T : Tx K mg A) : FnOk P w K mg base CX0 1 A.f__law_next A.d__law_next ["_law_deck_here", "_law_many"] spNext := by
  refine T.d__law_next.F.ok sc__law_next (fun vs H Q E h => ?_) (fun cdv A outer s H vs Q E hr h => ?_)
  · obtain ⟨d, g, c, k, m, rfl, _⟩ := h
    rfl
  · obtain ⟨d, g, c, k, m, rfl, hm, hm2, D0, hk, q⟩ := h
    have hW : m.natAbs < 2 ^ 80 := by
      show m.natAbs < 1208925819614629174706176
      omega
    refine ⟨_, (pss_cons (ps_while PassesOwn.never (pt_cmpR (op_neD hr.units) (pe_ix ix_list (pv 0) pe_int (fun _ _ => rfl)) (pe_lst pa_nil) (nomark _))
        (pss_cons (ps_set (i := 4) sc__law_next.nd rfl (.inl rfl) (pe_ix ix_list (pe_ix ix_list (pv 0) pe_int (fun _ _ => rfl)) pe_int (fun _ _ => rfl)))
        (pss_cons (ps_if (pt_cmpR op_gt (pv 4) pe_int (nomark _))
        (pss_cons (ps_asg (pe_op op_fdivW (pv 4) (pv 1)) (pg_sub (pe_ix ix_list (pv 0) pe_int (fun _ _ => rfl)) pe_int set_list))
        (pss_one (ps_ret (pe_op op_mod (pv 4) (pv 1)))))
        pss_nil)
        (pss_one (ps_expr (pe_bm PySem.F.plainAttrs_list PySem.F.slot_list_pop PySem.F.type_list_pop mt_popAt (pe_ix ix_list (pv 0) pe_int (fun _ _ => rfl)) (pa_cons pe_int pa_nil)))))))
        (pss_cons (ps_asg (pe_op op_add (pe_ix ix_list (pv 0) pe_int (fun _ _ => rfl)) pe_int) (pg_sub (pv 0) pe_int set_list))
        (pss_cons (ps_set (i := 2) sc__law_next.nd rfl (.inl rfl) (pe_op op_mod (pe_ix ix_list (pe_ix ix_list (pv 0) pe_int (fun _ _ => rfl)) (pe_op op_mod (pe_ix ix_list (pv 0) pe_int (fun _ _ => rfl)) (pe_callB call_len_seq (by rfl) T.b_len PySem.boot_len (pa_cons (pe_ix ix_list (pv 0) pe_int (fun _ _ => rfl)) pa_nil))) (fun _ _ => rfl)) pe_int))
        (pss_cons (ps_set (i := 3) sc__law_next.nd rfl (.inl rfl) (pe_op op_add (pe_op op_add (pe_op op_mul (pv 2) (pe_op op_add pe_int (pe_op op_mul pe_int (pe_ix ix_list (pv 0) pe_int (fun _ _ => rfl))))) (pe_op op_mul (pe_op op_mul pe_int (pe_ix ix_list (pv 0) pe_int (fun _ _ => rfl))) (pe_ix ix_list (pv 0) pe_int (fun _ _ => rfl)))) pe_int))
        (pss_cons (ps_set (i := 3) sc__law_next.nd rfl (.inl rfl) (pe_op op_mod (pv 3) pe_int))
        (pss_one (ps_ret (pe_op op_mod (pe_op op_fdivW (pe_op op_mod (pe_op op_mul (pv 3) (pv 3)) pe_int) pe_int) (pv 1))))))))), ?_⟩
    refine while_by (fun σ H' => ∃ v2 v3 v4, σ = [some (.ref d), some (.int m), v2, v3, v4] ∧ Dk d g c k H' ∧ Fr d g H H') (fun _ H' => lenAt g H') ⟨none, none, none, rfl, D0, Fr.refl _ _ _⟩ ?_ ?_
    · rintro σ H1 ⟨v2, v3, v4, rfl, D1, f1⟩
      obtain ⟨gs, cs, n, h1, h2, h3, h4, h5, h6, h7⟩ := D1.ex
      refine ⟨.ref d, rfl, d, _, 0, .ref g, rfl, rfl, SqL.of h1, atI_zero, Nat.zero_le _, fun p hp => ?_⟩
      obtain ⟨npd, npg, npc⟩ := D1.nd hp
      have k1 : upd H1 p (.lst []) d = some (.lst [.ref g, .ref c, .int n]) := by
        rw [upd_ne npd.symm]
        exact h1
      have k2 : upd H1 p (.lst []) g = some (.lst (gs.map V.int)) := by
        rw [upd_ne npg.symm]
        exact h2
      have k3 : upd H1 p (.lst []) c = some (.lst (cs.map V.int)) := by
        rw [upd_ne npc.symm]
        exact h3
      have f2 : Fr d g H (upd H1 p (.lst [])) := f1.trans (.new hp)
      have eL : lenAt g H1 = gs.length := by rw [lenAt_of h2, List.length_map]
      have k4 : upd H1 p (.lst []) p = some (.lst []) := upd_same
      generalize upd H1 p (.lst []) = H2 at k1 k2 k3 k4 f2 ⊢
      refine ⟨.list (gs.map PyData.int), .list ([].map PyData.int), .lst (SqL.of k2) (dp_ints gs), .lst (SqL.of k4) .nil, sh_ints gs, sh_ints [], _, rfl, ?_⟩
      cases gs with
      | cons x r =>
        -- rest = deck[0][0]
        refine ⟨.ref d, rfl, d, _, 0, _, rfl, rfl, SqL.of k1, atI_zero, g, _, 0, _, rfl, rfl, SqL.of k2, atI_zero, ?_⟩
        refine ⟨.int x, rfl, x, 0, rfl, rfl, _, rfl, ite2 (fun _ => ?_) (fun _ => ?_)⟩
        · -- deck[0][0] = rest // many; return rest % many
          refine ⟨.int x, rfl, .int m, rfl, x, m, rfl, rfl, wide_div hm hW (by decide) (by decide), .ref d, rfl, d, _, 0, _, rfl, rfl, SqL.of k1, atI_zero, g, _, 0, 0, rfl, rfl, k2, ixN_zero (by simp), ?_⟩
          refine ⟨.int x, rfl, .int m, rfl, x, m, rfl, rfl, hm, ?_⟩
          refine q _ _ (Int.emod_nonneg _ (by omega)) (Int.emod_lt_of_pos _ hm) ⟨⟨(x / m) :: r, cs, n, ?_, ?_, ?_, h4, h5, h6, by omega⟩, D1.dg, D1.dc, D1.gc⟩ (f2.trans .atg)
          · rw [upd_ne D1.dg]
            exact k1
          · rw [upd_same]
            rfl
          · rw [upd_ne D1.gc.symm]
            exact k3
        · -- deck[0].pop(0)
          refine ⟨.ref d, rfl, d, _, 0, _, rfl, rfl, SqL.of k1, atI_zero, .inl ⟨rfl, _, SqL.of k2⟩, g, _, 0, 0, .int x, rfl, rfl, k2, by decide, by decide, ixN_seq0 (by simp), rfl, ?_⟩
          refine ⟨⟨_, _, _, rfl, ⟨⟨r, cs, n, ?_, ?_, ?_, h4, h5, h6, h7⟩, D1.dg, D1.dc, D1.gc⟩, f2.trans .atg⟩, ?_⟩
          · rw [upd_ne D1.dg]
            exact k1
          · rw [upd_same]
            rfl
          · rw [upd_ne D1.gc.symm]
            exact k3
          · show lenAt g (upd H2 g _) < lenAt g H1
            rw [eL, lenAt_of upd_same]
            show (r.map V.int).length < r.length + 1
            rw [List.length_map]
            omega
      | nil =>
        -- deck[2] = deck[2] + 1
        refine ⟨.ref d, rfl, d, _, 2, _, rfl, rfl, SqL.of k1, atI_nat (j := 2) rfl, n, 1, rfl, rfl, .ref d, rfl, d, _, 2, 2, rfl, rfl, k1, rfl, ?_⟩
        have j1 : upd H2 d (.lst ([V.ref g, V.ref c, V.int n].set 2 (V.int (n + 1)))) d = some (.lst [.ref g, .ref c, .int (n + 1)]) := upd_same
        have j2 : upd H2 d (.lst ([V.ref g, V.ref c, V.int n].set 2 (V.int (n + 1)))) g = some (.lst []) := by
          rw [upd_ne D1.dg.symm]
          exact k2
        have j3 : upd H2 d (.lst ([V.ref g, V.ref c, V.int n].set 2 (V.int (n + 1)))) c = some (.lst (cs.map V.int)) := by
          rw [upd_ne D1.dc.symm]
          exact k3
        have f3 : Fr d g H (upd H2 d (.lst ([V.ref g, V.ref c, V.int n].set 2 (V.int (n + 1))))) := f2.trans .atd
        generalize upd H2 d (.lst ([V.ref g, V.ref c, V.int n].set 2 (V.int (n + 1)))) = H3 at j1 j2 j3 f3 ⊢
        have hl : (0 : Int) < (cs.map V.int).length := by
          rw [List.length_map]
          omega
        obtain ⟨v, hv⟩ := ints_at (cs := cs) (i := (n + 1) % ((cs.map V.int).length : Int)) (Int.emod_nonneg _ (by omega)) (by
          have z := Int.emod_lt_of_pos (n + 1) hl
          rw [List.length_map] at z ⊢
          exact z)
        -- the cell
        refine ⟨.ref d, rfl, d, _, 1, _, rfl, rfl, SqL.of j1, atI_nat (j := 1) rfl, .ref d, rfl, d, _, 2, _, rfl, rfl, SqL.of j1, atI_nat (j := 2) rfl, .ref d, rfl, d, _, 1, _, rfl, rfl, SqL.of j1, atI_nat (j := 1) rfl, c, _, rfl, .inl (SqL.of j3), n + 1, _, rfl, rfl, hl, c, _, _, .int v, rfl, rfl, SqL.of j3, hv, v, 2147483647, rfl, rfl, (by show (0 : Int) < 2147483647; decide), ?_⟩
        have q0 : 0 ≤ v % 2147483647 := Int.emod_nonneg _ (by decide)
        have q1 : v % 2147483647 < 2147483647 := Int.emod_lt_of_pos _ (by decide)
        refine ⟨.int (v % 2147483647), rfl, .ref d, rfl, d, _, 2, _, rfl, rfl, SqL.of j1, atI_nat (j := 2) rfl, 69621, n + 1, rfl, rfl, .inl ⟨by decide, by decide⟩, 48271, _, rfl, rfl, v % 2147483647, _, rfl, rfl, .inl ⟨by omega, by omega⟩,
          .ref d, rfl, d, _, 2, _, rfl, rfl, SqL.of j1, atI_nat (j := 2) rfl, 40692, n + 1, rfl, rfl, .inl ⟨by decide, by decide⟩, .ref d, rfl, d, _, 2, _, rfl, rfl, SqL.of j1, atI_nat (j := 2) rfl, _, n + 1, rfl, rfl, .inr ⟨by omega, by omega⟩, _, _, rfl, rfl, _, 11, rfl, rfl, ?_⟩
        refine ⟨_, rfl, _, 2147483629, rfl, rfl, (by show (0 : Int) < 2147483629; decide), ?_⟩
        refine ⟨_, rfl, _, rfl, _, _, rfl, rfl, .inl (mod_in (by decide) (by decide)), _, 2147483587, rfl, rfl, (by show (0 : Int) < 2147483587; decide), _, 16, rfl, rfl, wide_div (b := 5) (by decide) (by decide) (by decide) (by decide), .int m, rfl, _, m, rfl, rfl, hm, ?_⟩
        exact q _ _ (Int.emod_nonneg _ (by omega)) (Int.emod_lt_of_pos _ hm) ⟨⟨[], cs, n + 1, j1, j2, j3, h4, h5, by omega, by omega⟩, D1.dg, D1.dc, D1.gc⟩ f3
    · rintro σ H1 Q1 Q2 hq ⟨v, e, p, xs, i, v', e1, e2, hs, ha, hz, f⟩
      refine ⟨v, e, p, xs, i, v', e1, e2, hs, ha, hz, fun r hr => ?_⟩
      obtain ⟨d1, d2, a1, a2, a3, a4, kk, ek, qk⟩ := f r hr
      exact ⟨d1, d2, a1, a2, a3, a4, kk, ek, hq _ _ qk⟩
/-! ### lists or tuples; the prime -/
def At (k : Zm.Kd) (H : Hp) (a : Addr) (xs : List V) : Prop := match k with
  | .l => H a = some (.lst xs)
  | .t => H a = some (.tup xs)
theorem At.sm {k : Zm.Kd} {H H' : Hp} {a : Addr} {xs : List V} (h : At k H a xs) (s : Sm H H') : At k H' a xs := by
  cases k with
  | l => exact s.lst h
  | t => exact s.tup h
theorem At.sq {k : Zm.Kd} {H : Hp} {a : Addr} {xs : List V} (h : At k H a xs) : Zm.Sq k K H a xs := by
  cases k with
  | l => exact SqL.of h
  | t => exact SqT.of h

theorem same_put {H H1 : Hp} {L : Addr} {o : HO} (s : Same H H1) (h : H L = none) : Same H (upd H1 L o) := fun b u e => by
  rw [upd_ne (ne_of_none e h)]
  exact s _ _ e
theorem At.same {k : Zm.Kd} {H H' : Hp} {a : Addr} {xs : List V} (h : At k H a xs) (s : Same H H') : At k H' a xs := h.sm (.of_same s)
theorem At.len2 {k : Zm.Kd} {H : Hp} {a : Addr} {xs : List V} (h : At k H a xs) : SqL K H a xs ∨ SqT K H a xs := match k, h with
  | .l, h => .inl (SqL.of h)
  | .t, h => .inr (SqT.of h)
theorem Dk.nt {d g c a : Addr} {k : Int} {H : Hp} {xs : List V} (D : Dk d g c k H) (h : H a = some (.tup xs)) : a ≠ d ∧ a ≠ g := by
  obtain ⟨gs, cs, n, h1, h2, _⟩ := D.ex
  exact ⟨ne_of h h1 (by intro z; cases z), ne_of h h2 (by intro z; cases z)⟩
section
variable {d g c L : Addr} {k : Int} {H H' : Hp} {xs : List V} {r : Row} {t : Addr}
theorem Fr.tup (f : Fr d g H H') (D : Dk d g c k H) (h : H t = some (.tup xs)) : H' t = some (.tup xs) := f _ _ (D.nt h).1 (D.nt h).2 h
theorem Dk.put {o : HO} (D : Dk d g c k H) (h1 : L ≠ d) (h2 : L ≠ g) (h3 : L ≠ c) : Dk d g c k (upd H L o) := by
  obtain ⟨gs, cs, n, e1, e2, e3, h4, h5, h6, h7⟩ := D.ex
  exact ⟨⟨gs, cs, n, by rw [upd_ne h1.symm]; exact e1, by rw [upd_ne h2.symm]; exact e2, by rw [upd_ne h3.symm]; exact e3, h4, h5, h6, h7⟩, D.dg, D.dc, D.gc⟩
end
def prs : List Int := [2, 3, 5, 7, 11, 13]
theorem prs_bd : ∀ p ∈ prs, 2 ≤ p ∧ p ≤ 13 := by decide
theorem ints_mem {cs : List Int} {i : Int} (h0 : 0 ≤ i) (h1 : i < cs.length) : ∃ v : Int, v ∈ cs ∧ atI (cs.map V.int) i = some (V.int v) := by
  obtain ⟨j, rfl⟩ := Int.eq_ofNat_of_zero_le h0
  have hj : j < cs.length := by omega
  refine ⟨cs[j], List.getElem_mem hj, ?_⟩
  apply atI_nat
  rw [List.getElem?_map, List.getElem?_eq_getElem hj]
  rfl
def spPrm : Sp := fun vs H Q _ => ∃ (d g c : Addr) (k : Int), vs = [.ref d] ∧ Dk d g c k H ∧ k ≤ 1000000 ∧
  ∀ (p : Int) (H' : Hp), p ∈ prs → Dk d g c (k + 1) H' → Fr d g H H' → Q (.int p) H'
theorem ok__law_prime (T : Tx K mg A) : FnOk P w K mg base CX0 2 A.f__law_prime A.d__law_prime ["_law_deck_here"] spPrm := by
  have G__law_next : FnOk P w K mg base CX0 1 A.f__law_next A.d__law_next ["_law_deck_here", "_law_many"] spNext := ok__law_next T
  refine T.d__law_prime.F.ok sc__law_prime (fun vs H Q E h => ?_) (fun cdv A outer s H vs Q E hr h => ?_)
  · obtain ⟨d, g, c, k, rfl, _⟩ := h
    rfl
  · obtain ⟨d, g, c, k, rfl, D0, hk, q⟩ := h
    refine ⟨_, (pss_one (ps_ret (pe_ix ix_tup (pe_tup (pa_cons pe_int (pa_cons pe_int (pa_cons pe_int (pa_cons pe_int (pa_cons pe_int (pa_cons pe_int pa_nil))))))) (pe_call G__law_next hr (by rfl) T.d__law_next.g T.d__law_next.F.kp T.d__law_next.b .nil pass0 (pa_cons (pv 0) (pa_cons pe_int pa_nil))) (fun _ _ => rfl)))), ?_⟩
    refine ⟨(by show 6 ≤ sizeLine; decide), fun t ht => ?_⟩
    have nt := D0.nd ht
    refine ⟨.ref d, rfl, d, g, c, k, 6, rfl, by decide, by decide, D0.same (same_upd ht), by omega, fun r H1 r0 r1 D1 f1 => ?_⟩
    obtain ⟨v, hv, ev⟩ := ints_mem (cs := prs) r0 r1
    exact ⟨t, _, r, .int v, rfl, rfl, SqT.of (f1 t _ nt.1 nt.2.1 upd_same), ev, q v H1 hv D1 ((Fr.new ht).trans f1)⟩
/-! ### slices, tuples put together -/
theorem cat_read {H : Hp} {Q : VK} {a b : Addr} {xs ys : List V} (ha : H a = some (.tup xs)) (hb : H b = some (.tup ys)) (hl : xs.length + ys.length ≤ 1000) (q : ∀ t H', Same H H' → H' t = some (.tup (xs ++ ys)) → Q (.ref t) H') : rCatA K (.ref a) (.ref b) H Q := by
  refine ⟨a, b, xs, ys, rfl, rfl, SqT.of ha, SqT.of hb, Nat.le_of_lt (small hl), fun e => ?_, fun _ e => ?_, fun _ _ t ht => q t _ (same_upd ht) upd_same⟩
  · subst e
    exact q b H (Same.refl _) hb
  · subst e
    exact q a H (Same.refl _) (by rw [List.append_nil]; exact ha)
theorem sl_read {H : Hp} {Q : VK} {a : Addr} {xs : List V} {lo hi : Option Int} (ha : H a = some (.tup xs)) (q : ∀ t H', Same H H' → H' t = some (.tup (cutV xs lo hi)) → Q (.ref t) H') : rSlA K (.ref a) lo hi H Q := by
  refine ⟨a, xs, rfl, SqT.of ha, fun e => ?_, fun _ t ht => q t _ (same_upd ht) upd_same⟩
  refine q a H (Same.refl _) ?_
  unfold cutV
  rw [e.1, e.2]
  simpa using ha
theorem cut_to {xs : List V} {k : Nat} : cutV xs none (some (k : Int)) = xs.take k := by
  unfold cutV
  rw [HT.sIx_nat, HT.sIx_none]
  simp
theorem cut_from {xs : List V} {k : Nat} (h : k ≤ xs.length) : cutV xs (some (k : Int)) none = xs.drop k := by
  unfold cutV
  rw [HT.sIx_nat, HT.sIx_none, Nat.min_eq_left h]
  exact List.take_of_length_le (by rw [List.length_drop]; exact Nat.le_refl _)
theorem cut_one {xs : List V} {k : Nat} (h : k < xs.length) : cutV xs (some (k : Int)) (some ((k + 1 : Nat) : Int)) = [xs[k]] := by
  unfold cutV
  rw [HT.sIx_nat, HT.sIx_nat, Nat.min_eq_left (by omega), Nat.min_eq_left (by omega), List.drop_eq_getElem_cons h]
  have e : k + 1 - k = 1 := by omega
  rw [e]
  rfl
/-! ### texts -/
section
open PySem.Spec PyProof.Rows
variable {X : Cx}
/-- str(x), x an int or a text -/
theorem call_strA : CallR X (.type "str") (fun xs H Q => (∃ i : Int, xs = [.int i] ∧ i.natAbs.log2 < 1920 ∧ Q (.str (toString i)) H) ∨ ∃ a, xs = [.str a] ∧ Q (.str a) H) := by
  intro pins s σ H xs us Q I r h
  rcases h with h | h
  · exact call_str_int pins s σ H xs us Q I r h
  · exact SkE.call_str_str pins s σ H xs us Q I r h
def rJoin (K : PySem.W.Frag) : V → List V → Hp → VK → Prop := fun x xs H Q => ∃ a p, ∃ ys : List Str, x = .str a ∧ xs = [.ref p] ∧ (SqL K H p (ys.map V.str) ∨ SqT K H p (ys.map V.str)) ∧ (ys.map (·.length)).sum + ys.length * a.length ≤ 16777216 ∧ Q (.str (Txt.join a ys)) H
end
/-- a value with its text -/
def Sv (x : V) (t : Str) : Prop := (∃ i : Int, x = .int i ∧ i.natAbs.log2 < 1920 ∧ t = (toString i : String)) ∨ x = .str t
structure Svs (xs : List V) (ts : List Str) : Prop where
  len : xs.length = ts.length
  get : ∀ {i : Nat} {x : V}, xs[i]? = some x → ∃ t, ts[i]? = some t ∧ Sv x t
theorem Svs.nil : Svs [] [] := ⟨rfl, fun e => by simp at e⟩
theorem Svs.cons {x : V} {t : Str} {xs : List V} {ts : List Str} (h : Sv x t) (k : Svs xs ts) : Svs (x :: xs) (t :: ts) := ⟨by rw [List.length_cons, List.length_cons, k.len], fun {i y} e => match i, e with
  | 0, e => by cases e; exact ⟨t, rfl, h⟩
  | i + 1, e => k.get (i := i) e⟩
def sI (i : Int) : Str := (toString i : String)
def Sm13 (n : Int) : Prop := 0 ≤ n ∧ n ≤ 30
theorem log_small {n : Int} (h : Sm13 n) : n.natAbs.log2 < 1920 := by
  unfold Sm13 at h
  have : n.natAbs < 2 ^ 5 := by omega
  have z := PySem.Flt.log2_lt_of (k := 5) (by decide) this
  omega
theorem sI_len {n : Int} (h : Sm13 n) : (sI n).length ≤ 10 := by
  unfold Sm13 at h
  have hk : n.natAbs < 2 ^ 5 := by omega
  have z := PySem.Flt.log2_lt_of (k := 5) (by decide) hk
  have e := int_text_length_le (a := n) (k := 5) (by decide) z
  show (Str.ofString (toString n)).length ≤ 10
  rw [PySem.ofString_length]
  omega
theorem sI_pos {n : Int} (h : Sm13 n) : 0 < (sI n).length := by
  have all : ∀ i ∈ List.range 31, 0 < (sI (i : Nat)).length := by decide +kernel
  obtain ⟨j, rfl⟩ := Int.eq_ofNat_of_zero_le h.1
  have := h.2
  exact all j (List.mem_range.mpr (by omega))
theorem svs_ints : ∀ {ns : List Int}, (∀ n ∈ ns, Sm13 n) → Svs (ns.map V.int) (ns.map sI)
  | [], _ => .nil
  | n :: ns, h => .cons (.inl ⟨n, rfl, log_small (h n (by simp)), rfl⟩) (svs_ints fun x hx => h x (List.mem_cons_of_mem _ hx))
theorem svs_strs : ∀ {ts : List Str}, Svs (ts.map V.str) ts
  | [] => .nil
  | t :: ts => .cons (.inr rfl) svs_strs
def tot (ts : List Str) : Nat := (ts.map (·.length)).sum
theorem tot_ints : ∀ {ns : List Int}, (∀ n ∈ ns, Sm13 n) → tot (ns.map sI) ≤ 10 * ns.length
  | [], _ => Nat.le_refl _
  | n :: ns, h => by
    have a := sI_len (h n (by simp))
    have b := tot_ints (ns := ns) fun x hx => h x (List.mem_cons_of_mem _ hx)
    unfold tot at b ⊢
    rw [List.map_cons, List.map_cons, List.sum_cons, List.length_cons]
    omega
theorem tot_cons {t : Str} {ts : List Str} : tot (t :: ts) = t.length + tot ts := by
  unfold tot
  rw [List.map_cons, List.sum_cons]
theorem tot_append {ts us : List Str} : tot (ts ++ us) = tot ts + tot us := by
  unfold tot
  rw [List.map_append, List.sum_append]
theorem join_len (a : Str) (ts : List Str) : (Txt.join a ts).length ≤ tot ts + ts.length * a.length := by
  unfold Txt.join
  rw [StrLaws.glued_eq_join]
  exact StrLaws.join_length_le a ts
theorem join_two {a b c : Str} : Txt.join a [b, c] = b ++ a ++ c := rfl
theorem len_space : (" " : Str).length = 1 := by decide
theorem len_comma : ("," : Str).length = 1 := by decide
theorem len_empty : ("" : Str).length = 0 := by decide
def spSpoken : Sp := fun vs H Q _ => ∃ (w : Str) (a : Addr) (k : Zm.Kd) (xs : List V) (ts : List Str), vs = [.str w, .ref a] ∧ At k H a xs ∧ Svs xs ts ∧ w.length + tot ts ≤ 100000 ∧ ts.length ≤ 900 ∧ ∀ H', Same H H' → Q (.str (Txt.join " " (w :: ts))) H'
theorem ok_spoken (T : Tx K mg A) : FnOk P w K mg base CX0 1 A.f_spoken A.d_spoken ["word", "numbers"] spSpoken := by
  refine T.d_spoken.F.ok sc_spoken (fun vs H Q E h => ?_) (fun cdv A outer s H vs Q E hr h => ?_)
  · obtain ⟨w, a, k, xs, ts, rfl, _⟩ := h
    rfl
  · obtain ⟨w, a, k, xs, ts, rfl, ha, sv, hl, hn, q⟩ := h
    have hsl := sv.len
    refine ⟨_, (pss_one (ps_ret (pe_join pe_str (pe_lst (pa_cons (pv 0) (StX.pa_star (pe_lc (own := [("number", 2)]) rfl sc_spoken.nd (Zm.pi_kd (pv 1)) (blkOk_by (N := N_spoken) (sc := defScope s_spoken) (by decide +kernel)) (fun _ _ _ _ _ => (pg_name (i := 2) sc_spoken.nd rfl (.inl rfl))) (fun _ _ _ _ _ => pts_nil) (fun _ _ _ _ _ => (pe_callTy call_strA (by rfl) T.b_str PyProof.Rows.boot_str (pa_cons (pv 2) pa_nil)))) pa_nil)))))), ?_⟩
    refine ⟨⟨_, rfl⟩, .str w, rfl, .ref a, rfl, a, k, xs, rfl, ha.sq, fun D hD => lc_it Zm.walkq (fun i H' => Same H H' ∧ H' D = some (.lst ((ts.take i).map V.str))) ⟨same_upd hD, upd_same⟩ (fun i H' _ h => (ha.same h.1).sq) ?_ ?_⟩
    · rintro i x H1 H2 hi ⟨s1, eD⟩ ⟨rfl, hx⟩
      obtain ⟨t, et, hv⟩ := sv.get hx
      have fin : ∃ zs, H2 D = some (.lst zs) ∧ zs.length < sizeLine ∧ Same H (upd H2 D (.lst (zs ++ [.str t]))) ∧ upd H2 D (.lst (zs ++ [.str t])) D = some (.lst ((ts.take (i + 1)).map V.str)) := by
        refine ⟨_, eD, ?_, same_put s1 hD, ?_⟩
        · rw [List.length_map, List.length_take]
          exact small (by omega)
        · rw [upd_same, take_snoc et, List.map_append]
          rfl
      rcases hv with ⟨n, rfl, hn2, rfl⟩ | rfl
      · exact ⟨rfl, .int n, rfl, .inl ⟨n, rfl, hn2, fin⟩⟩
      · exact ⟨rfl, .str t, rfl, .inr ⟨t, rfl, fin⟩⟩
    · rintro H1 ⟨s1, eD⟩
      rw [List.take_of_length_le (by omega)] at eD
      have e1 : (.str w :: (ts.map V.str ++ [])) = (w :: ts).map V.str := by rw [List.append_nil]; rfl
      refine ⟨D, _, rfl, .inr (SqL.of eD), ?_, fun l hl' => ?_⟩
      · rw [List.length_cons, List.length_append, List.length_map]
        exact Nat.le_of_lt (small (by simp; omega))
      · rw [e1]
        refine ⟨_, l, w :: ts, rfl, rfl, .inl (SqL.of upd_same), ?_, q _ (s1.trans (same_upd hl'))⟩
        have z := tot_cons (t := w) (ts := ts)
        unfold tot at z hl
        rw [z, len_space, List.length_cons]
        omega
def spCommas : Sp := fun vs H Q _ => ∃ (a : Addr) (ns : List Int), vs = [.ref a] ∧ H a = some (.tup (ns.map V.int)) ∧ (∀ n ∈ ns, Sm13 n) ∧ ns.length ≤ 100 ∧ ∀ H', Same H H' → Q (.str (Txt.join "," (ns.map sI))) H'
theorem ok_commas (T : Tx K mg A) : FnOk P w K mg base CX0 1 A.f_commas A.d_commas ["numbers"] spCommas := by
  refine T.d_commas.F.ok sc_commas (fun vs H Q E h => ?_) (fun cdv A outer s H vs Q E hr h => ?_)
  · obtain ⟨a, ns, rfl, _⟩ := h
    rfl
  · obtain ⟨a, ns, rfl, ha, sm, hn, q⟩ := h
    refine ⟨_, (pss_one (ps_ret (pe_join pe_str (pe_lc (own := [("number", 1)]) rfl sc_commas.nd (pi_tup (pv 0)) (blkOk_by (N := N_commas) (sc := defScope s_commas) (by decide +kernel)) (fun _ _ _ _ _ => (pg_name (i := 1) sc_commas.nd rfl (.inl rfl))) (fun _ _ _ _ _ => pts_nil) (fun _ _ _ _ _ => (pe_callTy call_strA (by rfl) T.b_str PyProof.Rows.boot_str (pa_cons (pv 1) pa_nil))))))), ?_⟩
    refine ⟨⟨_, rfl⟩, .ref a, rfl, a, rfl, ⟨_, SqT.of ha⟩, fun D hD => lc_it (walk_tup (xs := ns.map V.int)) (fun i H' => Same H H' ∧ H' D = some (.lst (((ns.map sI).take i).map V.str))) ⟨same_upd hD, upd_same⟩ (fun i H' _ h => SqT.of (h.1 _ _ ha)) ?_ ?_⟩
    · rintro i x H1 H2 hi ⟨s1, eD⟩ ⟨rfl, hx⟩
      rw [List.getElem?_map] at hx
      obtain ⟨n, en, rfl⟩ := Option.map_eq_some_iff.mp hx
      have et : (ns.map sI)[i]? = some (sI n) := by rw [List.getElem?_map, en]; rfl
      refine ⟨rfl, .int n, rfl, .inl ⟨n, rfl, log_small (sm n (List.mem_of_getElem? en)), _, eD, ?_, same_put s1 hD, ?_⟩⟩
      · rw [List.length_map, List.length_take, List.length_map]
        exact small (by omega)
      · rw [upd_same, take_snoc et, List.map_append]
        rfl
    · rintro H1 ⟨s1, eD⟩
      rw [List.length_map, List.take_of_length_le (by rw [List.length_map]; exact Nat.le_refl _)] at eD
      have z := tot_ints sm
      refine ⟨_, D, ns.map sI, rfl, rfl, .inl (SqL.of eD), ?_, q _ s1⟩
      unfold tot at z
      rw [len_comma, List.length_map]
      omega
/-! ### gadgets, ties, webs -/
inductive Gad where
  | num (w : Str) (n : Int)
  | tab (hs : List Int) (rs : List (List Int))
structure Trs (H : Hp) (ys : List V) (rs : List (List Int)) : Prop where
  len : ys.length = rs.length
  get : ∀ {i : Nat} {y : V}, ys[i]? = some y → ∃ e r, y = .ref e ∧ rs[i]? = some r ∧ H e = some (.tup (r.map V.int))
def GadAt (H : Hp) (x : V) : Gad → Prop
  | .num w n => ∃ a, x = .ref a ∧ H a = some (.tup [.str w, .int n])
  | .tab hs rs => ∃ a b c ys, x = .ref a ∧ H a = some (.tup [.str ("table" : Str), .ref b, .ref c]) ∧ H b = some (.tup (hs.map V.int)) ∧ H c = some (.tup ys) ∧ Trs H ys rs
def GadOk : Gad → Prop
  | .num w n => (w = "spring" ∨ w = "lever" ∨ w = "knot" ∨ w = "ring") ∧ Sm13 n
  | .tab hs rs => hs.length ≤ 10 ∧ rs.length = hs.length ∧ (∀ n ∈ hs, Sm13 n) ∧ ∀ r ∈ rs, r.length ≤ 10 ∧ ∀ n ∈ r, Sm13 n
def gT : Gad → Str
  | .num w n => Txt.join " " [w, sI n]
  | .tab hs rs => Txt.join " " ("table" :: (if hs = [] then "-" else Txt.join "" (hs.map sI)) :: rs.map fun r => Txt.join "," (r.map sI))
theorem Trs.same {H H' : Hp} {ys : List V} {rs : List (List Int)} (h : Trs H ys rs) (s : Same H H') : Trs H' ys rs := ⟨h.len, fun e => let ⟨a, r, h1, h2, h3⟩ := h.get e; ⟨a, r, h1, h2, s _ _ h3⟩⟩
theorem GadAt.same {H H' : Hp} {x : V} {g : Gad} (h : GadAt H x g) (s : Same H H') : GadAt H' x g := match g, h with
  | .num _ _, ⟨a, h1, h2⟩ => ⟨a, h1, s _ _ h2⟩
  | .tab _ _, ⟨a, b, c, ys, h1, h2, h3, h4, h5⟩ => ⟨a, b, c, ys, h1, s _ _ h2, s _ _ h3, s _ _ h4, h5.same s⟩
theorem rows_tot : ∀ {rs : List (List Int)}, (∀ r ∈ rs, r.length ≤ 10 ∧ ∀ n ∈ r, Sm13 n) → tot (rs.map fun r => Txt.join "," (r.map sI)) ≤ 200 * rs.length
  | [], _ => Nat.le_refl _
  | r :: rs, h => by
    obtain ⟨h1, h2⟩ := h r (by simp)
    have a := tot_ints h2
    have b := join_len "," (r.map sI)
    rw [List.length_map, len_comma] at b
    have c := rows_tot (rs := rs) fun x hx => h x (List.mem_cons_of_mem _ hx)
    rw [List.map_cons, tot_cons, List.length_cons]
    omega
theorem word_ne {w : Str} (h : w = "spring" ∨ w = "lever" ∨ w = "knot" ∨ w = "ring") : w ≠ "table" := by
  rcases h with rfl | rfl | rfl | rfl <;> decide +kernel
theorem word_len {w : Str} (h : w = "spring" ∨ w = "lever" ∨ w = "knot" ∨ w = "ring") : w.length ≤ 10 := by
  rcases h with rfl | rfl | rfl | rfl <;> decide +kernel
theorem str_ne {a b : Str} (h : a ≠ b) : V.str a ≠ V.str b := fun z => h (V.str.inj z)
theorem signs_len {hs : List Int} (h : ∀ n ∈ hs, Sm13 n) (h2 : hs.length ≤ 10) : (Txt.join "" (hs.map sI)).length ≤ 100 := by
  have a := tot_ints h
  have b := join_len "" (hs.map sI)
  rw [List.length_map, len_empty] at b
  omega
theorem signs_pos {hs : List Int} (h : ∀ n ∈ hs, Sm13 n) (h2 : hs ≠ []) : 0 < (Txt.join "" (hs.map sI)).length := by
  have a := PyProof.Rows.len_join_ge_sum "" (hs.map sI)
  cases hs with
  | nil => exact absurd rfl h2
  | cons n ns =>
    have b := sI_pos (h n (by simp))
    rw [List.map_cons, List.map_cons, List.sum_cons] at a
    exact Nat.lt_of_lt_of_le b (Nat.le_trans (Nat.le_add_right _ _) a)
def spGText : Sp := fun vs H Q _ => ∃ (x : V) (g : Gad), vs = [x] ∧ GadAt H x g ∧ GadOk g ∧ ∀ H', Same H H' → Q (.str (gT g)) H'
theorem ok_gadget_text (T : Tx K mg A) : FnOk P w K mg base CX0 2 A.f_gadget_text A.d_gadget_text ["gadget"] spGText := by
  have G_spoken : FnOk P w K mg base CX0 1 A.f_spoken A.d_spoken ["word", "numbers"] spSpoken := ok_spoken T
  have G_commas : FnOk P w K mg base CX0 1 A.f_commas A.d_commas ["numbers"] spCommas := ok_commas T
  refine T.d_gadget_text.F.ok sc_gadget_text (fun vs H Q E h => ?_) (fun cdv A outer s H vs Q E hr h => ?_)
  · obtain ⟨x, g, rfl, _⟩ := h
    rfl
  · obtain ⟨x, g, rfl, hg, ok, q⟩ := h
    refine ⟨_, (pss_cons (ps_if (pt_cmpR op_ne (pe_ix ix_tup (pv 0) pe_int (fun _ _ => rfl)) pe_str (nomark _))
        (pss_one (ps_ret (pe_call G_spoken hr (by rfl) T.d_spoken.g T.d_spoken.F.kp T.d_spoken.b .nil pass0 (pa_cons (pe_ix ix_tup (pv 0) pe_int (fun _ _ => rfl)) (pa_cons (pe_slice sl_tupA (pv 0) (po_some pe_int) po_none) pa_nil)))))
        pss_nil)
        (pss_cons (ps_asg (pv 0) (pg_tup rfl (pgs_cons (pg_name (i := 2) sc_gadget_text.nd rfl (.inl rfl)) (pgs_cons (pg_name (i := 3) sc_gadget_text.nd rfl (.inl rfl)) (pgs_cons (pg_name (i := 4) sc_gadget_text.nd rfl (.inl rfl)) pgs_nil)))))
        (pss_cons (ps_set (i := 1) sc_gadget_text.nd rfl (.inl rfl) (pe_join pe_str (pe_lc (own := [("side", 5)]) rfl sc_gadget_text.nd (pi_tup (pv 3)) (blkOk_by (N := N_gadget_text) (sc := defScope s_gadget_text) (by decide +kernel)) (fun _ _ _ _ _ => (pg_name (i := 5) sc_gadget_text.nd rfl (.inl rfl))) (fun _ _ _ _ _ => pts_nil) (fun _ _ _ _ _ => (pe_callTy call_strA (by rfl) T.b_str PyProof.Rows.boot_str (pa_cons (pv 5) pa_nil))))))
        (pss_one (ps_ret (pe_call G_spoken hr (by rfl) T.d_spoken.g T.d_spoken.F.kp T.d_spoken.b .nil pass0 (pa_cons (pv 2) (pa_cons (pe_lst (pa_cons (pe_ifExp (pt_truth (pv 1) (fun _ => rfl)) (pv 1) pe_str) (StX.pa_star (pe_lc (own := [("row", 6)]) rfl sc_gadget_text.nd (pi_tup (pv 4)) (blkOk_by (N := N_gadget_text) (sc := defScope s_gadget_text) (by decide +kernel)) (fun _ _ _ _ _ => (pg_name (i := 6) sc_gadget_text.nd rfl (.inl rfl))) (fun _ _ _ _ _ => pts_nil) (fun _ _ _ _ _ => (pe_call G_commas hr (by rfl) T.d_commas.g T.d_commas.F.kp T.d_commas.b .nil pass0 (pa_cons (pv 6) pa_nil)))) pa_nil))) pa_nil)))))))), ?_⟩
    cases g with
    | num w n =>
      obtain ⟨a, rfl, ha⟩ := hg
      obtain ⟨hw, hn⟩ := ok
      refine ⟨.ref a, rfl, a, _, 0, .str w, rfl, rfl, SqT.of ha, atI_zero, rfl, true, nb_t (str_ne (word_ne hw)), ?_⟩
      refine ⟨.ref a, rfl, a, _, 0, .str w, rfl, rfl, SqT.of ha, atI_zero, .ref a, rfl, 1, rfl, ?_⟩
      dsimp only [tNoPart]
      refine sl_read ha fun t H1 s1 e1 => ?_
      have ec : cutV [V.str w, V.int n] (some (1 : Int)) none = [n].map V.int := cut_from (k := 1) (xs := [V.str w, V.int n]) (by simp)
      rw [ec] at e1
      have h1 : ∀ x ∈ [n], Sm13 x := fun x hx => by rw [List.mem_singleton.mp hx]; exact hn
      have z := tot_ints h1
      have z2 := word_len hw
      exact ⟨w, t, .t, _, _, rfl, e1, svs_ints h1, by rw [List.length_singleton] at z; omega, by simp, fun H2 s2 => q H2 (s1.trans s2)⟩
    | tab hs rs =>
      obtain ⟨a, b, c, ys, rfl, ha, hb, hc, htr⟩ := hg
      obtain ⟨h10, hrl, hsm, hrs⟩ := ok
      refine ⟨.ref a, rfl, a, _, 0, .str ("table" : Str), rfl, rfl, SqT.of ha, atI_zero, rfl, false, nb_f rfl, ?_⟩
      refine ⟨.ref a, rfl, a, [.str ("table" : Str), .ref b, .ref c], rfl, SqT.of ha, rfl, _, _, rfl, _, _, rfl, _, _, rfl, rfl, ?_⟩
      refine ⟨⟨_, rfl⟩, .ref b, rfl, b, rfl, ⟨_, SqT.of hb⟩, fun D hD => lc_it (walk_tup (xs := hs.map V.int)) (fun i H' => Same H H' ∧ H' D = some (.lst (((hs.map sI).take i).map V.str))) ⟨same_upd hD, upd_same⟩ (fun i H' _ h => SqT.of (h.1 _ _ hb)) ?_ ?_⟩
      · rintro i x H1 H2 hi ⟨s1, eD⟩ ⟨rfl, hx⟩
        rw [List.getElem?_map] at hx
        obtain ⟨n, en, rfl⟩ := Option.map_eq_some_iff.mp hx
        have et : (hs.map sI)[i]? = some (sI n) := by rw [List.getElem?_map, en]; rfl
        refine ⟨rfl, .int n, rfl, .inl ⟨n, rfl, log_small (hsm n (List.mem_of_getElem? en)), _, eD, ?_, same_put s1 hD, ?_⟩⟩
        · rw [List.length_map, List.length_take, List.length_map]
          exact small (by omega)
        · rw [upd_same, take_snoc et, List.map_append]
          rfl
      · rintro H1 ⟨s1, eD⟩
        rw [List.length_map, List.take_of_length_le (by rw [List.length_map]; exact Nat.le_refl _)] at eD
        have z := tot_ints hsm
        have sl := signs_len hsm h10
        refine ⟨_, D, hs.map sI, rfl, rfl, .inl (SqL.of eD), ?_, ?_⟩
        · unfold tot at z
          rw [len_empty, List.length_map]
          omega
        -- the signs, or a dash; the rows
        have hc1 := s1 _ _ hc
        refine ⟨.str ("table" : Str), rfl, .str _, rfl, _, ⟨Nat.le_of_lt (small (by omega)), rfl⟩, ite2 (fun e => ?g1) (fun e => ?g2)⟩
        case' g1 =>
          refine ⟨.str _, rfl, ?_⟩
          obtain ⟨y, ey, yl⟩ : ∃ y : Str, y = Txt.join "" (hs.map sI) ∧ y.length ≤ 100 := ⟨_, rfl, sl⟩
          rw [← ey]
          have ye : y = if hs = [] then ("-" : Str) else Txt.join "" (hs.map sI) := by
            by_cases h0 : hs = []
            · subst h0
              exact absurd e (by decide +kernel)
            · rw [if_neg h0]
              exact ey
        case' g2 =>
          obtain ⟨y, ey, yl⟩ : ∃ y : Str, y = "-" ∧ y.length ≤ 100 := ⟨_, rfl, by decide +kernel⟩
          rw [← ey]
          have ye : y = if hs = [] then ("-" : Str) else Txt.join "" (hs.map sI) := by
            by_cases h0 : hs = []
            · rw [if_pos h0]
              exact ey
            · have := signs_pos hsm h0
              exfalso
              apply e
              rw [bne_iff_ne]
              omega
        all_goals
          refine ⟨.ref c, rfl, c, rfl, ⟨_, SqT.of hc1⟩, fun D2 hD2 => lc_it (walk_tup (xs := ys)) (fun i H' => Same H1 H' ∧ H' D2 = some (.lst (((rs.map fun r => Txt.join "," (r.map sI)).take i).map V.str))) ⟨same_upd hD2, upd_same⟩ (fun i H' _ h => SqT.of (h.1 _ _ hc1)) ?_ ?_⟩
          · rintro i x H2 H3 hi ⟨s2, eD2⟩ ⟨rfl, hx⟩
            obtain ⟨e', r, rfl, er, he⟩ := ((htr.same s1).same s2).get hx
            obtain ⟨r1, r2⟩ := hrs r (List.mem_of_getElem? er)
            have et : (rs.map fun r => Txt.join "," (r.map sI))[i]? = some (Txt.join "," (r.map sI)) := by rw [List.getElem?_map, er]; rfl
            refine ⟨rfl, .ref e', rfl, e', r, rfl, he, r2, by omega, fun H4 s4 => ⟨_, s4 _ _ eD2, ?_, same_put (s2.trans s4) hD2, ?_⟩⟩
            · rw [List.length_map, List.length_take, List.length_map]
              exact small (by omega)
            · rw [upd_same, take_snoc et, List.map_append]
              rfl
          · rintro H2 ⟨s2, eD2⟩
            rw [htr.len, List.take_of_length_le (by rw [List.length_map]; exact Nat.le_refl _)] at eD2
            have z3 := rows_tot hrs
            refine ⟨D2, _, rfl, .inr (SqL.of eD2), ?_, fun l hl => ?_⟩
            · rw [List.length_cons, List.length_append, List.length_map, List.length_map]
              exact Nat.le_of_lt (small (by simp; omega))
            · have e1 : (.str y :: ((rs.map fun r => Txt.join "," (r.map sI)).map V.str ++ [])) = (y :: rs.map fun r => Txt.join "," (r.map sI)).map V.str := by rw [List.append_nil]; rfl
              rw [e1]
              refine ⟨_, l, .l, _, y :: rs.map fun r => Txt.join "," (r.map sI), rfl, upd_same, svs_strs, ?_, ?_, fun H3 s3 => ?_⟩
              · have tl : ("table" : Str).length = 5 := by decide +kernel
                rw [tl, tot_cons]
                omega
              · rw [List.length_cons, List.length_map]
                omega
              · have q' : Q (.str (Txt.join " " ("table" :: (if hs = [] then "-" else Txt.join "" (hs.map sI)) :: rs.map fun r => Txt.join "," (r.map sI)))) H3 := q H3 (((s1.trans s2).trans (same_upd hl)).trans s3)
                rw [← ye] at q'
                exact q'
/-! ### ties and webs -/
structure Gads (H : Hp) (xs : List V) (gs : List Gad) : Prop where
  len : xs.length = gs.length
  get : ∀ {i : Nat} {x : V}, xs[i]? = some x → ∃ g, gs[i]? = some g ∧ GadAt H x g
  ok : ∀ g ∈ gs, GadOk g
def TieAt (H : Hp) (x : V) (t : Str × List Int) : Prop := ∃ a, x = .ref a ∧ H a = some (.tup (.str t.1 :: t.2.map V.int))
def TieOk (t : Str × List Int) : Prop := t.1.length ≤ 10 ∧ PyData.leavesShort 120 (.str t.1) = true ∧ t.1.cps.size ≤ 10 ∧ t.2.length ≤ 2 ∧ ∀ n ∈ t.2, Sm13 n
structure Ties (H : Hp) (xs : List V) (ts : List (Str × List Int)) : Prop where
  len : xs.length = ts.length
  get : ∀ {i : Nat} {x : V}, xs[i]? = some x → ∃ t, ts[i]? = some t ∧ TieAt H x t
  ok : ∀ t ∈ ts, TieOk t
structure Web where
  p : Int
  gs : List Gad
  ts : List (Str × List Int)
def WebAt (H : Hp) (x : V) (w : Web) : Prop := ∃ a b c xs ys, x = .ref a ∧ H a = some (.tup [.int w.p, .ref b, .ref c]) ∧ H b = some (.tup xs) ∧ H c = some (.tup ys) ∧ Gads H xs w.gs ∧ Ties H ys w.ts
def WebOk (w : Web) : Prop := Sm13 w.p ∧ w.gs.length ≤ 20 ∧ w.ts.length ≤ 40
theorem Gads.same {H H' : Hp} {xs : List V} {gs : List Gad} (h : Gads H xs gs) (s : Same H H') : Gads H' xs gs := ⟨h.len, fun e => let ⟨g, h1, h2⟩ := h.get e; ⟨g, h1, h2.same s⟩, h.ok⟩
theorem Ties.same {H H' : Hp} {xs : List V} {gs : List (Str × List Int)} (h : Ties H xs gs) (s : Same H H') : Ties H' xs gs := ⟨h.len, fun e => let ⟨g, h1, a, h2, h3⟩ := h.get e; ⟨g, h1, a, h2, s _ _ h3⟩, h.ok⟩
theorem WebAt.same {H H' : Hp} {x : V} {w : Web} (h : WebAt H x w) (s : Same H H') : WebAt H' x w := let ⟨a, b, c, xs, ys, h1, h2, h3, h4, h5, h6⟩ := h; ⟨a, b, c, xs, ys, h1, s _ _ h2, s _ _ h3, s _ _ h4, h5.same s, h6.same s⟩
def tT (t : Str × List Int) : Str := Txt.join " " (t.1 :: t.2.map sI)
def wRows (w : Web) : List Str := (("round " : Str) ++ sI w.p) :: (w.gs.map gT ++ w.ts.map tT)
def wT (w : Web) : Str := Txt.join "" ((wRows w).map fun r : Str => r ++ ("\n" : Str))
theorem gT_len {g : Gad} (h : GadOk g) : (gT g).length ≤ 3000 := by
  cases g with
  | num w n =>
    obtain ⟨h1, h2⟩ := h
    have a := word_len h1
    have b := sI_len h2
    have c := join_len " " [w, sI n]
    rw [tot_cons, tot_cons, len_space] at c
    have d : tot ([] : List Str) = 0 := rfl
    show (Txt.join " " [w, sI n]).length ≤ 3000
    simp only [List.length_cons, List.length_nil] at c
    omega
  | tab hs rs =>
    obtain ⟨h1, h2, h3, h4⟩ := h
    have a := rows_tot h4
    have b : (if hs = [] then ("-" : Str) else Txt.join "" (hs.map sI)).length ≤ 100 := by
      by_cases h0 : hs = []
      · rw [if_pos h0]
        decide +kernel
      · rw [if_neg h0]
        exact signs_len h3 h1
    show (Txt.join " " ("table" :: (if hs = [] then "-" else Txt.join "" (hs.map sI)) :: rs.map fun r => Txt.join "," (r.map sI))).length ≤ 3000
    refine Nat.le_trans (join_len _ _) ?_
    have tl : ("table" : Str).length = 5 := by decide +kernel
    rw [tot_cons, tot_cons, len_space, tl, List.length_cons, List.length_cons, List.length_map]
    omega
theorem tT_len {t : Str × List Int} (h : TieOk t) : (tT t).length ≤ 100 := by
  obtain ⟨h1, _, _, h2, h3⟩ := h
  have a := tot_ints h3
  have c := join_len " " (t.1 :: t.2.map sI)
  rw [tot_cons, len_space, List.length_cons, List.length_map] at c
  unfold tT
  omega

theorem gs_tot : ∀ {gs : List Gad}, (∀ g ∈ gs, GadOk g) → tot (gs.map gT) ≤ 3000 * gs.length
  | [], _ => Nat.le_refl _
  | g :: gs, h => by
    have a := gT_len (h g (by simp))
    have b := gs_tot (gs := gs) fun x hx => h x (List.mem_cons_of_mem _ hx)
    rw [List.map_cons, tot_cons, List.length_cons]
    omega
theorem ts_tot : ∀ {ts : List (Str × List Int)}, (∀ t ∈ ts, TieOk t) → tot (ts.map tT) ≤ 100 * ts.length
  | [], _ => Nat.le_refl _
  | t :: ts, h => by
    have a := tT_len (h t (by simp))
    have b := ts_tot (ts := ts) fun x hx => h x (List.mem_cons_of_mem _ hx)
    rw [List.map_cons, tot_cons, List.length_cons]
    omega
theorem app_len (a b : Str) : (a ++ b).length = a.length + b.length := by
  show (a.cps ++ b.cps).size = a.cps.size + b.cps.size
  exact Array.size_append
theorem round_len {p : Int} (h : Sm13 p) : (("round " : Str) ++ sI p).length ≤ 20 := by
  have a := sI_len h
  have b : ("round " : Str).length = 6 := by decide +kernel
  rw [app_len, b]
  omega
theorem nl_tot : ∀ ts : List Str, tot (ts.map fun r : Str => r ++ ("\n" : Str)) = tot ts + ts.length
  | [] => rfl
  | t :: ts => by
    have n1 : ("\n" : Str).length = 1 := by decide +kernel
    rw [List.map_cons, tot_cons, nl_tot ts, tot_cons, app_len, n1, List.length_cons]
    omega
theorem rows_len {w : Web} (h : WebOk w) : (wRows w).length ≤ 61 := by
  obtain ⟨_, h1, h2⟩ := h
  unfold wRows
  rw [List.length_cons, List.length_append, List.length_map, List.length_map]
  omega
theorem rows_all {w : Web} (h : WebOk w) (hg : ∀ g ∈ w.gs, GadOk g) (ht : ∀ t ∈ w.ts, TieOk t) : tot (wRows w) ≤ 70000 := by
  obtain ⟨h0, h1, h2⟩ := h
  have a := gs_tot hg
  have b := ts_tot ht
  have c := round_len h0
  unfold wRows
  rw [tot_cons, tot_append]
  omega
/-- the rows, each ended by a line feed, together -/
theorem row_le {ts : List Str} {t : Str} {i : Nat} (e : ts[i]? = some t) : t.length ≤ tot ts := by
  induction ts generalizing i with
  | nil => simp at e
  | cons u us ih =>
    rw [tot_cons]
    cases i with
    | zero =>
      cases e
      omega
    | succ i =>
      have := ih (i := i) e
      omega
def spWText : Sp := fun vs H Q _ => ∃ (x : V) (w : Web), vs = [x] ∧ WebAt H x w ∧ WebOk w ∧ ∀ H', Same H H' → Q (.str (wT w)) H'
theorem ok_web_text (T : Tx K mg A) : FnOk P w K mg base CX0 3 A.f_web_text A.d_web_text ["web"] spWText := by
  have G_spoken : FnOk P w K mg base CX0 1 A.f_spoken A.d_spoken ["word", "numbers"] spSpoken := ok_spoken T
  have G_gadget_text : FnOk P w K mg base CX0 2 A.f_gadget_text A.d_gadget_text ["gadget"] spGText := ok_gadget_text T
  refine T.d_web_text.F.ok sc_web_text (fun vs H Q E h => ?_) (fun cdv A outer s H vs Q E hr h => ?_)
  · obtain ⟨x, g, rfl, _⟩ := h
    rfl
  · obtain ⟨x, w, rfl, ⟨a, b, c, xs, ys, rfl, ha, hb, hc, hg, ht⟩, ok, q⟩ := h
    have ok' := ok
    obtain ⟨op, og, ot⟩ := ok
    have hgl := hg.len
    have htl := ht.len
    have rl := round_len op
    refine ⟨_, (pss_cons (ps_asg (pv 0) (pg_tup rfl (pgs_cons (pg_name (i := 2) sc_web_text.nd rfl (.inl rfl)) (pgs_cons (pg_name (i := 3) sc_web_text.nd rfl (.inl rfl)) (pgs_cons (pg_name (i := 4) sc_web_text.nd rfl (.inl rfl)) pgs_nil)))))
        (pss_cons (ps_set (i := 1) sc_web_text.nd rfl (.inl rfl) (pe_lst (pa_cons (pe_joined (.cons pe_str (.cons (pe_fmt (pv 2)) .nil))) (StX.pa_star (pe_lc (own := [("gadget", 6)]) rfl sc_web_text.nd (pi_tup (pv 3)) (blkOk_by (N := N_web_text) (sc := defScope s_web_text) (by decide +kernel)) (fun _ _ _ _ _ => (pg_name (i := 6) sc_web_text.nd rfl (.inl rfl))) (fun _ _ _ _ _ => pts_nil) (fun _ _ _ _ _ => (pe_call G_gadget_text hr (by rfl) T.d_gadget_text.g T.d_gadget_text.F.kp T.d_gadget_text.b .nil pass0 (pa_cons (pv 6) pa_nil)))) (StX.pa_star (pe_lc (own := [("tie", 7)]) rfl sc_web_text.nd (pi_tup (pv 4)) (blkOk_by (N := N_web_text) (sc := defScope s_web_text) (by decide +kernel)) (fun _ _ _ _ _ => (pg_name (i := 7) sc_web_text.nd rfl (.inl rfl))) (fun _ _ _ _ _ => pts_nil) (fun _ _ _ _ _ => (pe_call G_spoken (hr.mono (by decide)) (by rfl) T.d_spoken.g T.d_spoken.F.kp T.d_spoken.b .nil pass0 (pa_cons (pe_ix (show IxR _ (rIxT K) from ix_tup) (pv 7) pe_int (fun _ _ => rfl)) (pa_cons (pe_slice (show SlR _ (rSlA K) from sl_tupA) (pv 7) (po_some pe_int) po_none) pa_nil))))) pa_nil)))))
        (pss_one (ps_ret (pe_join pe_str (pe_lc (own := [("row", 5)]) rfl sc_web_text.nd (pi_list (pv 1)) (blkOk_by (N := N_web_text) (sc := defScope s_web_text) (by decide +kernel)) (fun _ _ _ _ _ => (pg_name (i := 5) sc_web_text.nd rfl (.inl rfl))) (fun _ _ _ _ _ => pts_nil) (fun _ _ _ _ _ => (pe_op op_add_str (pv 5) pe_str)))))))), ?_⟩
    refine ⟨.ref a, rfl, a, [.int w.p, .ref b, .ref c], rfl, SqT.of ha, rfl, _, _, rfl, _, _, rfl, _, _, rfl, rfl, ?_⟩
    refine ⟨("round " : Str), rfl, by decide +kernel, .int w.p, rfl, .inr ⟨w.p, rfl, log_small op, sI w.p, rfl, ?_, ?_⟩⟩
    · rw [app_len, app_len] at *
      have b : ("round " : Str).length = 6 := by decide +kernel
      have b0 : Str.empty.length = 0 := rfl
      rw [b] at *
      exact Nat.le_of_lt (small (by omega))
    have e0 : Str.empty ++ ("round " : Str) = ("round " : Str) := by decide +kernel
    rw [e0]
    -- the gadgets
    refine ⟨.ref b, rfl, b, rfl, ⟨_, SqT.of hb⟩, fun D hD => lc_it (walk_tup (xs := xs)) (fun i H' => Same H H' ∧ H' D = some (.lst (((w.gs.map gT).take i).map V.str))) ⟨same_upd hD, upd_same⟩ (fun i H' _ h => SqT.of (h.1 _ _ hb)) ?_ ?_⟩
    · rintro i x H1 H2 hi ⟨s1, eD⟩ ⟨rfl, hx⟩
      obtain ⟨g, eg, hga⟩ := (hg.same s1).get hx
      have et : (w.gs.map gT)[i]? = some (gT g) := by rw [List.getElem?_map, eg]; rfl
      refine ⟨rfl, x, rfl, x, g, rfl, hga, hg.ok g (List.mem_of_getElem? eg), fun H3 s3 => ⟨_, s3 _ _ eD, ?_, same_put (s1.trans s3) hD, ?_⟩⟩
      · rw [List.length_map, List.length_take, List.length_map]
        exact small (by omega)
      · rw [upd_same, take_snoc et, List.map_append]
        rfl
    · rintro H1 ⟨s1, eD⟩
      rw [List.take_of_length_le (by rw [List.length_map]; omega)] at eD
      refine ⟨D, _, rfl, .inr (SqL.of eD), ?_⟩
      -- the ties
      have hc1 := s1 _ _ hc
      refine ⟨.ref c, rfl, c, rfl, ⟨_, SqT.of hc1⟩, fun D2 hD2 => lc_it (walk_tup (xs := ys)) (fun i H' => Same H1 H' ∧ H' D2 = some (.lst (((w.ts.map tT).take i).map V.str))) ⟨same_upd hD2, upd_same⟩ (fun i H' _ h => SqT.of (h.1 _ _ hc1)) ?_ ?_⟩
      · rintro i x H2 H3 hi ⟨s2, eD2⟩ ⟨rfl, hx⟩
        obtain ⟨tie, eg, e', rfl, he⟩ := ((ht.same s1).same s2).get hx
        have tok := ht.ok tie (List.mem_of_getElem? eg)
        obtain ⟨k1, _, _, k2, k3⟩ := tok
        have et : (w.ts.map tT)[i]? = some (tT tie) := by rw [List.getElem?_map, eg]; rfl
        refine ⟨rfl, .ref e', rfl, e', _, 0, .str tie.1, rfl, rfl, SqT.of he, atI_zero, .ref e', rfl, 1, rfl, ?_⟩
        dsimp only [tNoPart]
        refine sl_read he fun t H4 s4 e4 => ?_
        have ec : cutV (V.str tie.1 :: tie.2.map V.int) (some (1 : Int)) none = tie.2.map V.int := cut_from (k := 1) (xs := V.str tie.1 :: tie.2.map V.int) (by simp)
        rw [ec] at e4
        have z := tot_ints k3
        refine ⟨tie.1, t, .t, _, _, rfl, e4, svs_ints k3, by omega, by rw [List.length_map]; omega, fun H5 s5 => ⟨_, s5 _ _ (s4 _ _ eD2), ?_, same_put ((s2.trans s4).trans s5) hD2, ?_⟩⟩
        · rw [List.length_map, List.length_take, List.length_map]
          exact small (by omega)
        · rw [upd_same, take_snoc et, List.map_append]
          rfl
      · rintro H2 ⟨s2, eD2⟩
        rw [List.take_of_length_le (by rw [List.length_map]; omega)] at eD2
        have e1 : (V.str (("round " : Str) ++ sI w.p) :: ((w.gs.map gT).map V.str ++ ((w.ts.map tT).map V.str ++ []))) = (wRows w).map V.str := by
          unfold wRows
          rw [List.append_nil, List.map_cons, List.map_append]
        have wl := rows_len ok'
        have wa := rows_all ok' hg.ok ht.ok
        refine ⟨D2, _, rfl, .inr (SqL.of eD2), ?_, fun l hl => ?_⟩
        · rw [e1, List.length_map]
          exact Nat.le_of_lt (small (by omega))
        rw [e1]
        have S3 : Same H (upd H2 l (.lst ((wRows w).map V.str))) := (s1.trans s2).trans (same_upd hl)
        have e3 : upd H2 l (.lst ((wRows w).map V.str)) l = some (.lst ((wRows w).map V.str)) := upd_same
        generalize upd H2 l (.lst ((wRows w).map V.str)) = H3 at S3 e3 ⊢
        refine ⟨⟨_, rfl⟩, .ref l, rfl, l, rfl, ⟨_, SqL.of e3⟩, fun D3 hD3 => lc_it (walk_list (xs := (wRows w).map V.str)) (fun i H' => Same H3 H' ∧ H' D3 = some (.lst ((((wRows w).map fun r : Str => r ++ ("\n" : Str)).take i).map V.str))) ⟨same_upd hD3, upd_same⟩ (fun i H' _ h => SqL.of (h.1 _ _ e3)) ?_ ?_⟩
        · rintro i x H4 H5 hi ⟨s4, eD3⟩ ⟨rfl, hx⟩
          rw [List.getElem?_map] at hx
          obtain ⟨r, er, rfl⟩ := Option.map_eq_some_iff.mp hx
          have et : ((wRows w).map fun r : Str => r ++ ("\n" : Str))[i]? = some (r ++ "\n") := by rw [List.getElem?_map, er]; rfl
          have rl := row_le er
          have n1 : ("\n" : Str).length = 1 := by decide +kernel
          have e : sizeLine = 16777216 := by decide
          refine ⟨rfl, .str r, rfl, r, "\n", rfl, rfl, by rw [n1]; omega, _, eD3, ?_, same_put s4 hD3, ?_⟩
          · rw [List.length_map, List.length_take, List.length_map]
            exact small (by omega)
          · rw [upd_same, take_snoc et, List.map_append]
            rfl
        · rintro H4 ⟨s4, eD3⟩
          rw [List.length_map, List.take_of_length_le (by rw [List.length_map]; exact Nat.le_refl _)] at eD3
          have z := nl_tot (wRows w)
          refine ⟨_, D3, _, rfl, rfl, .inl (SqL.of eD3), ?_, q _ (S3.trans s4)⟩
          unfold tot at z wa
          rw [len_empty, z]
          omega
/-! ### the law's own texts -/
theorem ok__law_gadget_text (T : Tx K mg A) : FnOk P w K mg base CX0 1 A.f__law_gadget_text A.d__law_gadget_text ["_law_gadget_here"] spGText := by
  refine T.d__law_gadget_text.F.ok sc__law_gadget_text (fun vs H Q E h => ?_) (fun cdv A outer s H vs Q E hr h => ?_)
  · obtain ⟨x, g, rfl, _⟩ := h
    rfl
  · obtain ⟨x, g, rfl, hg, ok, q⟩ := h
    refine ⟨_, (pss_cons (ps_if (pt_cmpR op_ne (pe_ix ix_tup (pv 0) pe_int (fun _ _ => rfl)) pe_str (nomark _))
        (pss_one (ps_ret (pe_op op_add_str (pe_op op_add_str (pe_ix ix_tup (pv 0) pe_int (fun _ _ => rfl)) pe_str) (pe_callTy call_strA (by rfl) T.b_str PyProof.Rows.boot_str (pa_cons (pe_ix ix_tup (pv 0) pe_int (fun _ _ => rfl)) pa_nil)))))
        pss_nil)
        (pss_cons (ps_if (pt_cmpR (op_eqT0 (ru80 hr)) (pe_ix ix_tup (pv 0) pe_int (fun _ _ => rfl)) (pe_tup pa_nil) (nomark _))
        (pss_one (ps_ret pe_str))
        pss_nil)
        (pss_cons (ps_setLc (i := 1) (own := [("_law_row", 2)]) rfl sc__law_gadget_text.nd rfl rfl (sw_true rfl rfl rfl (by decide +kernel)) (pi_tup (pe_ix ix_tup (pv 0) pe_int (fun _ _ => rfl))) (blkOk_by (N := N__law_gadget_text) (sc := defScope s__law_gadget_text) (by decide +kernel)) (fun _ _ _ _ _ => (pg_name (i := 2) sc__law_gadget_text.nd rfl (.inl rfl))) (fun _ _ _ _ _ => pts_nil) (fun _ _ _ _ _ => (show PE _ _ (tM1 (rJoin K) _ _) from (pe_join pe_str (pe_lc (own := [("_law_number", 3)]) rfl sc__law_gadget_text.nd (show PI _ _ _ (iTup K (tVar 2)) from pi_tup (pv 2)) (blkOk_by (N := N__law_gadget_text) (by kernel_rfl)) (fun _ _ _ _ _ => (pg_name (i := 3) sc__law_gadget_text.nd rfl (.inl rfl))) (fun _ _ _ _ _ => pts_nil) (fun _ _ _ _ _ => (pe_callTy call_strA (by rfl) T.b_str PyProof.Rows.boot_str (pa_cons (pv 3) pa_nil))))))))
        (pss_one (ps_ret (pe_join pe_str (pe_op op_cat (pe_lst (pa_cons pe_str (pa_cons (pe_join pe_str (pe_lc (own := [("_law_side", 4)]) rfl sc__law_gadget_text.nd (pi_tup (pe_ix ix_tup (pv 0) pe_int (fun _ _ => rfl))) (blkOk_by (N := N__law_gadget_text) (sc := defScope s__law_gadget_text) (by decide +kernel)) (fun _ _ _ _ _ => (pg_name (i := 4) sc__law_gadget_text.nd rfl (.inl rfl))) (fun _ _ _ _ _ => pts_nil) (fun _ _ _ _ _ => (pe_callTy call_strA (by rfl) T.b_str PyProof.Rows.boot_str (pa_cons (pv 4) pa_nil))))) pa_nil))) (pv 1)))))))), ?_⟩
    cases g with
    | num w n =>
      obtain ⟨a, rfl, ha⟩ := hg
      obtain ⟨hw, hn⟩ := ok
      have z1 := word_len hw
      have z2 := sI_len hn
      have e : sizeLine = 16777216 := by decide
      have at1 : atI [V.str w, V.int n] 1 = some (.int n) := atI_nat (j := 1) rfl
      refine ⟨.ref a, rfl, a, _, 0, .str w, rfl, rfl, SqT.of ha, atI_zero, rfl, true, nb_t (str_ne (word_ne hw)), ?_⟩
      refine ⟨.ref a, rfl, a, _, 0, .str w, rfl, rfl, SqT.of ha, atI_zero, w, " ", rfl, rfl, by rw [len_space]; omega, ?_⟩
      refine ⟨.ref a, rfl, a, _, 1, .int n, rfl, rfl, SqT.of ha, at1, .inl ⟨n, rfl, log_small hn, w ++ " ", sI n, rfl, rfl, by rw [app_len, len_space]; omega, ?_⟩⟩
      exact q H (Same.refl _)
    | tab hs rs =>
      obtain ⟨a, b, c, ys, rfl, ha, hb, hc, htr⟩ := hg
      obtain ⟨h10, hrl, hsm, hrs⟩ := ok
      have at1 : atI [V.str ("table" : Str), V.ref b, V.ref c] 1 = some (.ref b) := atI_nat (j := 1) rfl
      have at2 : atI [V.str ("table" : Str), V.ref b, V.ref c] 2 = some (.ref c) := atI_nat (j := 2) rfl
      refine ⟨.ref a, rfl, a, _, 0, .str ("table" : Str), rfl, rfl, SqT.of ha, atI_zero, rfl, false, nb_f rfl, ?_⟩
      refine ⟨.ref a, rfl, a, _, 1, .ref b, rfl, rfl, SqT.of ha, at1, Nat.zero_le _, fun e0 he0 => ?_⟩
      have s0 : Same H (upd H e0 (.tup [])) := same_upd he0
      have ee : upd H e0 (.tup []) e0 = some (.tup []) := upd_same
      generalize upd H e0 (.tup []) = H0 at s0 ee ⊢
      refine ⟨b, e0, _, rfl, rfl, SqT.of (s0 _ _ hb), SqT.of ee, _, rfl, ite2 (fun e => ?_) (fun e => ?_)⟩
      · have h0 : hs = [] := by
          cases hs with
          | nil => rfl
          | cons n ns => cases e
        subst h0
        have r0 : rs = [] := List.eq_nil_of_length_eq_zero hrl
        subst r0
        exact q H0 s0
      · have h0 : hs ≠ [] := fun z => by
          rw [z] at e
          exact e rfl
        have ha0 := s0 _ _ ha
        have hb0 := s0 _ _ hb
        have hc0 := s0 _ _ hc
        refine ⟨.ref a, rfl, a, _, 2, .ref c, rfl, rfl, SqT.of ha0, at2, c, rfl, ⟨_, SqT.of hc0⟩, fun D2 hD2 => lc_it (walk_tup (xs := ys)) (fun i H' => Same H0 H' ∧ H' D2 = some (.lst (((rs.map fun r => Txt.join "," (r.map sI)).take i).map V.str))) ⟨same_upd hD2, upd_same⟩ (fun i H' _ h => SqT.of (h.1 _ _ hc0)) ?_ ?_⟩
        · rintro i x H2 H3 hi ⟨s2, eD2⟩ ⟨rfl, hx⟩
          obtain ⟨e', r, rfl, er, he⟩ := ((htr.same s0).same s2).get hx
          obtain ⟨r1, r2⟩ := hrs r (List.mem_of_getElem? er)
          have et : (rs.map fun r => Txt.join "," (r.map sI))[i]? = some (Txt.join "," (r.map sI)) := by rw [List.getElem?_map, er]; rfl
          dsimp only [wipe, gName, List.map, List.set]
          refine ⟨rfl, ⟨_, rfl⟩, .ref e', rfl, e', rfl, ⟨_, SqT.of he⟩, fun D hD => lc_it (walk_tup (xs := r.map V.int)) (fun i H' => Same H3 H' ∧ H' D = some (.lst (((r.map sI).take i).map V.str))) ⟨same_upd hD, upd_same⟩ (fun i H' _ h => SqT.of (h.1 _ _ he)) ?_ ?_⟩
          · rintro j x H4 H5 hj ⟨s4, eD⟩ ⟨rfl, hx2⟩
            rw [List.getElem?_map] at hx2
            obtain ⟨n, en, rfl⟩ := Option.map_eq_some_iff.mp hx2
            have et2 : (r.map sI)[j]? = some (sI n) := by rw [List.getElem?_map, en]; rfl
            dsimp only [wipe, gName, List.map, List.set]
            refine ⟨rfl, .int n, rfl, .inl ⟨n, rfl, log_small (r2 n (List.mem_of_getElem? en)), _, eD, ?_, same_put s4 hD, ?_⟩⟩
            · rw [List.length_map, List.length_take, List.length_map]
              exact small (by omega)
            · rw [upd_same, take_snoc et2, List.map_append]
              rfl
          · rintro H4 ⟨s4, eD⟩
            rw [List.length_map, List.take_of_length_le (by rw [List.length_map]; exact Nat.le_refl _)] at eD
            have z := tot_ints r2
            refine ⟨_, D, r.map sI, rfl, rfl, .inl (SqL.of eD), ?_, _, s4 _ _ eD2, ?_, same_put (s2.trans s4) hD2, ?_⟩
            · unfold tot at z
              rw [len_comma, List.length_map]
              omega
            · rw [List.length_map, List.length_take, List.length_map]
              exact small (by omega)
            · rw [upd_same, take_snoc et, List.map_append]
              rfl
        · rintro H2 ⟨s2, eD2⟩
          rw [htr.len, List.take_of_length_le (by rw [List.length_map]; exact Nat.le_refl _)] at eD2
          have z3 := rows_tot hrs
          have s02 := s0.trans s2
          refine ⟨⟨_, rfl⟩, ⟨_, rfl⟩, ?_⟩
          have hb2 := s02 _ _ hb
          refine ⟨.ref a, rfl, a, _, 1, .ref b, rfl, rfl, SqT.of (s02 _ _ ha), at1, b, rfl, ⟨_, SqT.of hb2⟩, fun D hD => lc_it (walk_tup (xs := hs.map V.int)) (fun i H' => Same H2 H' ∧ H' D = some (.lst (((hs.map sI).take i).map V.str))) ⟨same_upd hD, upd_same⟩ (fun i H' _ h => SqT.of (h.1 _ _ hb2)) ?_ ?_⟩
          · rintro i x H3 H4 hi ⟨s3, eD⟩ ⟨rfl, hx⟩
            rw [List.getElem?_map] at hx
            obtain ⟨n, en, rfl⟩ := Option.map_eq_some_iff.mp hx
            have et : (hs.map sI)[i]? = some (sI n) := by rw [List.getElem?_map, en]; rfl
            refine ⟨rfl, .int n, rfl, .inl ⟨n, rfl, log_small (hsm n (List.mem_of_getElem? en)), _, eD, ?_, same_put s3 hD, ?_⟩⟩
            · rw [List.length_map, List.length_take, List.length_map]
              exact small (by omega)
            · rw [upd_same, take_snoc et, List.map_append]
              rfl
          · rintro H3 ⟨s3, eD⟩
            rw [List.length_map, List.take_of_length_le (by rw [List.length_map]; exact Nat.le_refl _)] at eD
            have z := tot_ints hsm
            have sl := signs_len hsm h10
            refine ⟨_, D, hs.map sI, rfl, rfl, .inl (SqL.of eD), ?_, (by show 2 ≤ sizeLine; decide), fun l1 hl1 => ?_⟩
            · unfold tot at z
              rw [len_empty, List.length_map]
              omega
            have eD3 : upd H3 l1 (.lst [.str ("table" : Str), .str (Txt.join "" (hs.map sI))]) D2 = some (.lst ((rs.map fun r => Txt.join "," (r.map sI)).map V.str)) := same_upd hl1 _ _ (s3 _ _ eD2)
            refine ⟨.ref D2, rfl, l1, D2, _, _, rfl, rfl, upd_same, eD3, ?_, fun l2 hl2 => ?_⟩
            · rw [List.length_map, List.length_map]
              exact Nat.le_of_lt (small (by simp; omega))
            have e1 : [V.str ("table" : Str), V.str (Txt.join "" (hs.map sI))] ++ (rs.map fun r => Txt.join "," (r.map sI)).map V.str = (("table" : Str) :: Txt.join "" (hs.map sI) :: rs.map fun r => Txt.join "," (r.map sI)).map V.str := rfl
            rw [e1]
            refine ⟨_, l2, _, rfl, rfl, .inl (SqL.of upd_same), ?_, ?_⟩
            · have tl : ("table" : Str).length = 5 := by decide +kernel
              have y1 := tot_cons (t := ("table" : Str)) (ts := Txt.join "" (hs.map sI) :: rs.map fun r => Txt.join "," (r.map sI))
              have y2 := tot_cons (t := Txt.join "" (hs.map sI)) (ts := rs.map fun r => Txt.join "," (r.map sI))
              unfold tot at y1 y2 z3
              rw [y1, y2, tl, len_space, List.length_cons, List.length_cons, List.length_map]
              omega
            · have ge : gT (.tab hs rs) = Txt.join " " ("table" :: Txt.join "" (hs.map sI) :: rs.map fun r => Txt.join "," (r.map sI)) := by
                show Txt.join " " ("table" :: (if hs = [] then "-" else Txt.join "" (hs.map sI)) :: rs.map fun r => Txt.join "," (r.map sI)) = _
                rw [if_neg h0]
              rw [← ge]
              exact q _ (((s02.trans s3).trans (same_upd hl1)).trans (same_upd hl2))
theorem ok__law_text (T : Tx K mg A) : FnOk P w K mg base CX0 2 A.f__law_text A.d__law_text ["_law_web_here"] spWText := by
  have G__law_gadget_text : FnOk P w K mg base CX0 1 A.f__law_gadget_text A.d__law_gadget_text ["_law_gadget_here"] spGText := ok__law_gadget_text T
  refine T.d__law_text.F.ok sc__law_text (fun vs H Q E h => ?_) (fun cdv A outer s H vs Q E hr h => ?_)
  · obtain ⟨x, g, rfl, _⟩ := h
    rfl
  · obtain ⟨x, w, rfl, ⟨a, b, c, xs, ys, rfl, ha, hb, hc, hg, ht⟩, ok, q⟩ := h
    have ok' := ok
    obtain ⟨op, og, ot⟩ := ok
    have hgl := hg.len
    have htl := ht.len
    have rl := round_len op
    have at1 : atI [V.int w.p, V.ref b, V.ref c] 1 = some (.ref b) := atI_nat (j := 1) rfl
    have at2 : atI [V.int w.p, V.ref b, V.ref c] 2 = some (.ref c) := atI_nat (j := 2) rfl
    have e : sizeLine = 16777216 := by decide
    refine ⟨_, (pss_cons (ps_set (i := 1) sc__law_text.nd rfl (.inl rfl) (pe_op op_cat (pe_lst (pa_cons (pe_op op_add_str pe_str (pe_callTy call_strA (by rfl) T.b_str PyProof.Rows.boot_str (pa_cons (pe_ix ix_tup (pv 0) pe_int (fun _ _ => rfl)) pa_nil))) pa_nil)) (pe_lc (own := [("_law_gadget_here", 2)]) rfl sc__law_text.nd (pi_tup (pe_ix ix_tup (pv 0) pe_int (fun _ _ => rfl))) (blkOk_by (N := N__law_text) (sc := defScope s__law_text) (by decide +kernel)) (fun _ _ _ _ _ => (pg_name (i := 2) sc__law_text.nd rfl (.inl rfl))) (fun _ _ _ _ _ => pts_nil) (fun _ _ _ _ _ => (pe_call G__law_gadget_text hr (by rfl) T.d__law_gadget_text.g T.d__law_gadget_text.F.kp T.d__law_gadget_text.b .nil pass0 (pa_cons (pv 2) pa_nil))))))
        (pss_cons (ps_set (i := 1) sc__law_text.nd rfl (.inl rfl) (pe_op op_cat (pv 1) (pe_lc (own := [("_law_tie", 3)]) rfl sc__law_text.nd (pi_tup (pe_ix ix_tup (pv 0) pe_int (fun _ _ => rfl))) (blkOk_by (N := N__law_text) (sc := defScope s__law_text) (by decide +kernel)) (fun _ _ _ _ _ => (pg_name (i := 3) sc__law_text.nd rfl (.inl rfl))) (fun _ _ _ _ _ => pts_nil) (fun _ _ _ _ _ => (show PE _ _ (tM1 (rJoin K) _ _) from (pe_join pe_str (pe_lc (own := [("_law_word", 5)]) rfl sc__law_text.nd (show PI _ _ _ (iTup K (tVar 3)) from pi_tup (pv 3)) (blkOk_by (N := N__law_text) (by kernel_rfl)) (fun _ _ _ _ _ => (pg_name (i := 5) sc__law_text.nd rfl (.inl rfl))) (fun _ _ _ _ _ => pts_nil) (fun _ _ _ _ _ => (pe_callTy call_strA (by rfl) T.b_str PyProof.Rows.boot_str (pa_cons (pv 5) pa_nil))))))))))
        (pss_one (ps_ret (pe_join pe_str (pe_lc (own := [("_law_row", 4)]) rfl sc__law_text.nd (pi_list (pv 1)) (blkOk_by (N := N__law_text) (sc := defScope s__law_text) (by decide +kernel)) (fun _ _ _ _ _ => (pg_name (i := 4) sc__law_text.nd rfl (.inl rfl))) (fun _ _ _ _ _ => pts_nil) (fun _ _ _ _ _ => (pe_op op_add_str (pv 4) pe_str)))))))), ?_⟩
    refine ⟨.ref a, rfl, a, _, 0, .int w.p, rfl, rfl, SqT.of ha, atI_zero, .inl ⟨w.p, rfl, log_small op, "round ", sI w.p, rfl, rfl, by rw [← app_len]; omega, (by show 1 ≤ sizeLine; decide), fun l0 hl0 => ?_⟩⟩
    have s0 : Same H (upd H l0 (.lst [.str (("round " : Str) ++ sI w.p)])) := same_upd hl0
    have el0 : upd H l0 (.lst [.str (("round " : Str) ++ sI w.p)]) l0 = some (.lst [.str (("round " : Str) ++ sI w.p)]) := upd_same
    generalize upd H l0 (.lst [.str (("round " : Str) ++ sI w.p)]) = H0 at s0 el0 ⊢
    have hb0 := s0 _ _ hb
    refine ⟨.ref a, rfl, a, _, 1, .ref b, rfl, rfl, SqT.of (s0 _ _ ha), at1, b, rfl, ⟨_, SqT.of hb0⟩, fun D hD => lc_it (walk_tup (xs := xs)) (fun i H' => Same H0 H' ∧ H' D = some (.lst (((w.gs.map gT).take i).map V.str))) ⟨same_upd hD, upd_same⟩ (fun i H' _ h => SqT.of (h.1 _ _ hb0)) ?_ ?_⟩
    · rintro i x H1 H2 hi ⟨s1, eD⟩ ⟨rfl, hx⟩
      obtain ⟨g, eg, hga⟩ := ((hg.same s0).same s1).get hx
      have et : (w.gs.map gT)[i]? = some (gT g) := by rw [List.getElem?_map, eg]; rfl
      refine ⟨rfl, x, rfl, x, g, rfl, hga, hg.ok g (List.mem_of_getElem? eg), fun H3 s3 => ⟨_, s3 _ _ eD, ?_, same_put (s1.trans s3) hD, ?_⟩⟩
      · rw [List.length_map, List.length_take, List.length_map]
        exact small (by omega)
      · rw [upd_same, take_snoc et, List.map_append]
        rfl
    · rintro H1 ⟨s1, eD⟩
      rw [List.take_of_length_le (by rw [List.length_map]; omega)] at eD
      refine ⟨l0, D, _, _, rfl, rfl, s1 _ _ el0, eD, ?_, fun l1 hl1 => ?_⟩
      · rw [List.length_map, List.length_map]
        exact Nat.le_of_lt (small (by simp; omega))
      have s2 : Same H (upd H1 l1 (.lst ([.str (("round " : Str) ++ sI w.p)] ++ (w.gs.map gT).map V.str))) := (s0.trans s1).trans (same_upd hl1)
      have el1 : upd H1 l1 (.lst ([.str (("round " : Str) ++ sI w.p)] ++ (w.gs.map gT).map V.str)) l1 = some (.lst ([.str (("round " : Str) ++ sI w.p)] ++ (w.gs.map gT).map V.str)) := upd_same
      generalize upd H1 l1 (.lst ([.str (("round " : Str) ++ sI w.p)] ++ (w.gs.map gT).map V.str)) = H2 at s2 el1 ⊢
      have hc2 := s2 _ _ hc
      refine ⟨.ref l1, rfl, .ref a, rfl, a, _, 2, .ref c, rfl, rfl, SqT.of (s2 _ _ ha), at2, c, rfl, ⟨_, SqT.of hc2⟩, fun D2 hD2 => lc_it (walk_tup (xs := ys)) (fun i H' => Same H2 H' ∧ H' D2 = some (.lst (((w.ts.map tT).take i).map V.str))) ⟨same_upd hD2, upd_same⟩ (fun i H' _ h => SqT.of (h.1 _ _ hc2)) ?_ ?_⟩
      · rintro i x H3 H4 hi ⟨s3, eD2⟩ ⟨rfl, hx⟩
        obtain ⟨tie, eg, e', rfl, he⟩ := ((ht.same s2).same s3).get hx
        have tok := ht.ok tie (List.mem_of_getElem? eg)
        obtain ⟨k1, _, _, k2, k3⟩ := tok
        have et : (w.ts.map tT)[i]? = some (tT tie) := by rw [List.getElem?_map, eg]; rfl
        have sv : Svs (V.str tie.1 :: tie.2.map V.int) (tie.1 :: tie.2.map sI) := .cons (.inr rfl) (svs_ints k3)
        have svl := sv.len
        dsimp only [wipe, gName, List.map, List.set]
        refine ⟨rfl, ⟨_, rfl⟩, .ref e', rfl, e', rfl, ⟨_, SqT.of he⟩, fun D3 hD3 => lc_it (walk_tup (xs := V.str tie.1 :: tie.2.map V.int)) (fun i H' => Same H4 H' ∧ H' D3 = some (.lst (((tie.1 :: tie.2.map sI).take i).map V.str))) ⟨same_upd hD3, upd_same⟩ (fun i H' _ h => SqT.of (h.1 _ _ he)) ?_ ?_⟩
        · rintro j x H5 H6 hj ⟨s5, eD3⟩ ⟨rfl, hx2⟩
          obtain ⟨t, et2, hv⟩ := sv.get hx2
          have fin : ∃ zs, H6 D3 = some (.lst zs) ∧ zs.length < sizeLine ∧ Same H4 (upd H6 D3 (.lst (zs ++ [.str t]))) ∧ upd H6 D3 (.lst (zs ++ [.str t])) D3 = some (.lst (((tie.1 :: tie.2.map sI).take (j + 1)).map V.str)) := by
            refine ⟨_, eD3, ?_, same_put s5 hD3, ?_⟩
            · rw [List.length_map, List.length_take, List.length_cons, List.length_map]
              exact small (by omega)
            · rw [upd_same, take_snoc et2, List.map_append]
              rfl
          dsimp only [wipe, gName, List.map, List.set]
          rcases hv with ⟨n, rfl, hn2, rfl⟩ | rfl
          · exact ⟨rfl, .int n, rfl, .inl ⟨n, rfl, hn2, fin⟩⟩
          · exact ⟨rfl, .str t, rfl, .inr ⟨t, rfl, fin⟩⟩
        · rintro H5 ⟨s5, eD3⟩
          rw [svl, List.take_length] at eD3
          have z := tot_ints k3
          refine ⟨_, D3, _, rfl, rfl, .inl (SqL.of eD3), ?_, _, s5 _ _ eD2, ?_, same_put (s3.trans s5) hD2, ?_⟩
          · have y1 := tot_cons (t := tie.1) (ts := tie.2.map sI)
            unfold tot at y1 z
            rw [y1, len_space, List.length_cons, List.length_map]
            omega
          · rw [List.length_map, List.length_take, List.length_map]
            exact small (by omega)
          · rw [upd_same, take_snoc et, List.map_append]
            rfl
      · rintro H3 ⟨s3, eD2⟩
        rw [List.take_of_length_le (by rw [List.length_map]; omega)] at eD2
        have e1 : [V.str (("round " : Str) ++ sI w.p)] ++ (w.gs.map gT).map V.str ++ (w.ts.map tT).map V.str = (wRows w).map V.str := by
          unfold wRows
          rw [List.map_cons, List.map_append]
          rfl
        have wl := rows_len ok'
        have wa := rows_all ok' hg.ok ht.ok
        refine ⟨l1, D2, _, _, rfl, rfl, s3 _ _ el1, eD2, ?_, fun l hl => ?_⟩
        · rw [List.length_append, List.length_map, List.length_map, List.length_map, List.length_map]
          exact Nat.le_of_lt (small (by simp; omega))
        rw [e1]
        have S3 : Same H (upd H3 l (.lst ((wRows w).map V.str))) := (s2.trans s3).trans (same_upd hl)
        have e3 : upd H3 l (.lst ((wRows w).map V.str)) l = some (.lst ((wRows w).map V.str)) := upd_same
        generalize upd H3 l (.lst ((wRows w).map V.str)) = H4 at S3 e3 ⊢
        refine ⟨⟨_, rfl⟩, .ref l, rfl, l, rfl, ⟨_, SqL.of e3⟩, fun D3 hD3 => lc_it (walk_list (xs := (wRows w).map V.str)) (fun i H' => Same H4 H' ∧ H' D3 = some (.lst ((((wRows w).map fun r : Str => r ++ ("\n" : Str)).take i).map V.str))) ⟨same_upd hD3, upd_same⟩ (fun i H' _ h => SqL.of (h.1 _ _ e3)) ?_ ?_⟩
        · rintro i x H5 H6 hi ⟨s4, eD3⟩ ⟨rfl, hx⟩
          rw [List.getElem?_map] at hx
          obtain ⟨r, er, rfl⟩ := Option.map_eq_some_iff.mp hx
          have et : ((wRows w).map fun r : Str => r ++ ("\n" : Str))[i]? = some (r ++ ("\n" : Str)) := by rw [List.getElem?_map, er]; rfl
          have rl := row_le er
          have n1 : ("\n" : Str).length = 1 := by decide +kernel
          refine ⟨rfl, .str r, rfl, r, "\n", rfl, rfl, by rw [n1]; omega, _, eD3, ?_, same_put s4 hD3, ?_⟩
          · rw [List.length_map, List.length_take, List.length_map]
            exact small (by omega)
          · rw [upd_same, take_snoc et, List.map_append]
            rfl
        · rintro H5 ⟨s4, eD3⟩
          rw [List.length_map, List.take_of_length_le (by rw [List.length_map]; exact Nat.le_refl _)] at eD3
          have z := nl_tot (wRows w)
          refine ⟨_, D3, _, rfl, rfl, .inl (SqL.of eD3), ?_, q _ (S3.trans s4)⟩
          unfold tot at z wa
          rw [len_empty, z]
          omega
/-! ### what is drawn -/
def KT (H H' : Hp) : Prop := ∀ a xs, H a = some (.tup xs) → H' a = some (.tup xs)
theorem KT.refl (H : Hp) : KT H H := fun _ _ e => e
theorem KT.trans {H H1 H2 : Hp} (x : KT H H1) (y : KT H1 H2) : KT H H2 := fun a xs e => y a xs (x a xs e)
theorem KT.of_same {H H' : Hp} (s : Same H H') : KT H H' := fun a xs e => s _ _ e
theorem KT.of_fr {d g c : Addr} {k : Int} {H H' : Hp} (D : Dk d g c k H) (f : Fr d g H H') : KT H H' := fun a xs e => f.tup D e
theorem KT.put {H : Hp} {L : Addr} {ys : List V} {o : HO} (e : H L = some (.lst ys)) : KT H (upd H L o) := fun a xs h => by
  rw [upd_ne (ne_of h e (by intro z; cases z))]
  exact h
theorem Trs.kt {H H' : Hp} {ys : List V} {rs : List (List Int)} (h : Trs H ys rs) (s : KT H H') : Trs H' ys rs := ⟨h.len, fun e => let ⟨a, r, h1, h2, h3⟩ := h.get e; ⟨a, r, h1, h2, s _ _ h3⟩⟩
theorem GadAt.kt {H H' : Hp} {x : V} {g : Gad} (h : GadAt H x g) (s : KT H H') : GadAt H' x g := match g, h with
  | .num _ _, ⟨a, h1, h2⟩ => ⟨a, h1, s _ _ h2⟩
  | .tab _ _, ⟨a, b, c, ys, h1, h2, h3, h4, h5⟩ => ⟨a, b, c, ys, h1, s _ _ h2, s _ _ h3, s _ _ h4, h5.kt s⟩
theorem Gads.kt {H H' : Hp} {xs : List V} {gs : List Gad} (h : Gads H xs gs) (s : KT H H') : Gads H' xs gs := ⟨h.len, fun e => let ⟨g, h1, h2⟩ := h.get e; ⟨g, h1, h2.kt s⟩, h.ok⟩
theorem Ties.kt {H H' : Hp} {xs : List V} {gs : List (Str × List Int)} (h : Ties H xs gs) (s : KT H H') : Ties H' xs gs := ⟨h.len, fun e => let ⟨g, h1, a, h2, h3⟩ := h.get e; ⟨g, h1, a, h2, s _ _ h3⟩, h.ok⟩
theorem WebAt.kt {H H' : Hp} {x : V} {w : Web} (h : WebAt H x w) (s : KT H H') : WebAt H' x w := let ⟨a, b, c, xs, ys, h1, h2, h3, h4, h5, h6⟩ := h; ⟨a, b, c, xs, ys, h1, s _ _ h2, s _ _ h3, s _ _ h4, h5.kt s, h6.kt s⟩
theorem Gads.nil {H : Hp} : Gads H [] [] := ⟨rfl, fun e => by simp at e, fun g hg => by cases hg⟩
theorem Ties.nil {H : Hp} : Ties H [] [] := ⟨rfl, fun e => by simp at e, fun g hg => by cases hg⟩
theorem get_snoc {α : Type} {xs : List α} {x y : α} {i : Nat} (e : (xs ++ [x])[i]? = some y) : (i < xs.length ∧ xs[i]? = some y) ∨ (i = xs.length ∧ y = x) := by
  by_cases h : i < xs.length
  · rw [List.getElem?_append_left h] at e
    exact .inl ⟨h, e⟩
  · rw [List.getElem?_append_right (by omega)] at e
    have : i - xs.length = 0 := by
      have := (List.getElem?_eq_some_iff.mp e).1
      simp at this
      exact this
    rw [this] at e
    cases e
    exact .inr ⟨by omega, rfl⟩
theorem snoc_at {α : Type} {xs : List α} {x : α} : (xs ++ [x])[xs.length]? = some x := by
  rw [List.getElem?_append_right (Nat.le_refl _), Nat.sub_self]
  rfl
theorem Gads.snoc {H : Hp} {xs : List V} {gs : List Gad} {x : V} {g : Gad} (h : Gads H xs gs) (k : GadAt H x g) (o : GadOk g) : Gads H (xs ++ [x]) (gs ++ [g]) := by
  refine ⟨by rw [List.length_append, List.length_append, h.len]; rfl, fun {i y} e => ?_, fun z hz => ?_⟩
  · rcases get_snoc e with ⟨hi, e⟩ | ⟨hi, rfl⟩
    · obtain ⟨g', h1, h2⟩ := h.get e
      exact ⟨g', by rw [List.getElem?_append_left (by rw [← h.len]; exact hi)]; exact h1, h2⟩
    · rw [hi, h.len]
      exact ⟨g, snoc_at, k⟩
  · rcases List.mem_append.mp hz with hz | hz
    · exact h.ok z hz
    · rw [List.mem_singleton.mp hz]
      exact o
theorem Ties.snoc {H : Hp} {xs : List V} {gs : List (Str × List Int)} {x : V} {g : Str × List Int} (h : Ties H xs gs) (k : TieAt H x g) (o : TieOk g) : Ties H (xs ++ [x]) (gs ++ [g]) := by
  refine ⟨by rw [List.length_append, List.length_append, h.len]; rfl, fun {i y} e => ?_, fun z hz => ?_⟩
  · rcases get_snoc e with ⟨hi, e⟩ | ⟨hi, rfl⟩
    · obtain ⟨g', h1, h2⟩ := h.get e
      exact ⟨g', by rw [List.getElem?_append_left (by rw [← h.len]; exact hi)]; exact h1, h2⟩
    · rw [hi, h.len]
      exact ⟨g, snoc_at, k⟩
  · rcases List.mem_append.mp hz with hz | hz
    · exact h.ok z hz
    · rw [List.mem_singleton.mp hz]
      exact o
theorem sm13 {n : Int} (h0 : 0 ≤ n) (h1 : n ≤ 30) : Sm13 n := ⟨h0, h1⟩
def spHold : Sp := fun vs H Q _ => ∃ (d g c : Addr) (k : Int) (m : Nat), vs = [.ref d, .int m] ∧ Dk d g c k H ∧ k ≤ 900000 ∧ m ≤ 10 ∧
  ∀ (t : Addr) (hs : List Int) (H' : Hp), (∀ n ∈ hs, Sm13 n) → hs.length = m → H' t = some (.tup (hs.map V.int)) → Dk d g c (k + m) H' → Fr d g H H' → Q (.ref t) H'
theorem ok__law_hold (T : Tx K mg A) : FnOk P w K mg base CX0 2 A.f__law_hold A.d__law_hold ["_law_deck_here", "_law_posts"] spHold := by
  have G__law_next : FnOk P w K mg base CX0 1 A.f__law_next A.d__law_next ["_law_deck_here", "_law_many"] spNext := ok__law_next T
  refine T.d__law_hold.F.ok sc__law_hold (fun vs H Q E h => ?_) (fun cdv A outer s H vs Q E hr h => ?_)
  · obtain ⟨d, g, c, k, m, rfl, _⟩ := h
    rfl
  · obtain ⟨d, g, c, k, m, rfl, D0, hk, hm, q⟩ := h
    refine ⟨_, (pss_one (ps_ret (pe_callTy call_tuple_of (by rfl) T.b_tuple PyProof.Rows.boot_tuple (pa_cons (pe_lc (own := [("_law_k", 2)]) rfl sc__law_hold.nd (pi_range1 (by rfl) T.b_range (pa_cons (pv 1) pa_nil)) (blkOk_by (N := N__law_hold) (sc := defScope s__law_hold) (by decide +kernel)) (fun _ _ _ _ _ => (pg_name (i := 2) sc__law_hold.nd rfl (.inl rfl))) (fun _ _ _ _ _ => pts_nil) (fun _ _ _ _ _ => (pe_call G__law_next hr (by rfl) T.d__law_next.g T.d__law_next.F.kp T.d__law_next.b .nil pass0 (pa_cons (pv 0) (pa_cons pe_int pa_nil))))) pa_nil)))), ?_⟩
    refine ⟨.int m, rfl, m, rfl, by omega, by omega, fun L hL => lc_range (fun i H' => Dk d g c (k + i) H' ∧ Fr d g H H' ∧ ∃ ns : List Int, (∀ n ∈ ns, Sm13 n) ∧ ns.length = i ∧ H' L = some (.lst (ns.map V.int))) ⟨(D0.same (same_upd hL)).mono (by omega), .new hL, [], by simp, rfl, upd_same⟩ ?_ ?_⟩
    · rintro i H1 hi ⟨D1, f1, ns, hns, hlen, eL⟩
      rw [Int.toNat_natCast] at hi
      have nL := D0.nd hL
      refine ⟨rfl, .ref d, rfl, d, g, c, _, 2, rfl, by decide, by decide, D1, by omega, fun r H2 r0 r1 D2 f2 => ?_⟩
      have eL2 := f2 L _ nL.1 nL.2.1 eL
      refine ⟨_, eL2, by rw [List.length_map]; exact small (by omega), (D2.put nL.1 nL.2.1 nL.2.2).mono (by omega), fun b o e1 e2 e => ?_, ns ++ [r], ?_, by rw [List.length_append, hlen]; rfl, by rw [upd_same, List.map_append]; rfl⟩
      · rw [upd_ne (ne_of_none e hL)]
        exact f2 _ _ e1 e2 (f1 _ _ e1 e2 e)
      · intro n hn
        rcases List.mem_append.mp hn with hn | hn
        · exact hns n hn
        · rw [List.mem_singleton.mp hn]
          exact sm13 r0 (by omega)
    · rintro H1 ⟨D1, f1, ns, hns, hlen, eL⟩
      rw [Int.toNat_natCast] at hlen D1
      exact ⟨L, _, rfl, .inl ⟨SqL.of eL, fun t ht => q t ns _ hns hlen upd_same (D1.same (same_upd ht)) (f1.trans (.new ht))⟩⟩
/-! ### tables -/
theorem nd_inj {as : List Addr} (h : as.Nodup) {i j : Nat} {a : Addr} (h1 : as[i]? = some a) (h2 : as[j]? = some a) : i = j := by
  obtain ⟨hi, e1⟩ := List.getElem?_eq_some_iff.mp h1
  obtain ⟨hj, e2⟩ := List.getElem?_eq_some_iff.mp h2
  have pw := List.pairwise_iff_getElem.mp h
  rcases Nat.lt_trichotomy i j with l | l | l
  · exact absurd (e1.trans e2.symm) (pw i j hi hj l)
  · exact l
  · exact absurd (e2.trans e1.symm) (pw j i hj hi l)
structure Grid (H0 : Hp) (d g c F : Addr) (m : Nat) (H : Hp) (as : List Addr) (rs : List (List Int)) : Prop where
  len : as.length = rs.length
  nd : as.Nodup
  get : ∀ {i : Nat} {a : Addr}, as[i]? = some a → ∃ r, rs[i]? = some r ∧ H a = some (.lst (r.map V.int))
  ok : ∀ r ∈ rs, r.length = m ∧ ∀ n ∈ r, Sm13 n
  ne : ∀ a ∈ as, a ≠ d ∧ a ≠ g ∧ a ≠ c ∧ a ≠ F ∧ H0 a = none
theorem Grid.fr {H0 H H' : Hp} {d g c F : Addr} {m : Nat} {as : List Addr} {rs : List (List Int)} (h : Grid H0 d g c F m H as rs) (f : Fr d g H H') : Grid H0 d g c F m H' as rs := ⟨h.len, h.nd, fun e => let ⟨r, h1, h2⟩ := h.get e; ⟨r, h1, f _ _ (h.ne _ (List.mem_of_getElem? e)).1 (h.ne _ (List.mem_of_getElem? e)).2.1 h2⟩, h.ok, h.ne⟩
theorem Grid.putF {H0 H : Hp} {d g c F : Addr} {m : Nat} {as : List Addr} {rs : List (List Int)} {o : HO} (h : Grid H0 d g c F m H as rs) : Grid H0 d g c F m (upd H F o) as rs := ⟨h.len, h.nd, fun e => let ⟨r, h1, h2⟩ := h.get e; ⟨r, h1, by rw [upd_ne (h.ne _ (List.mem_of_getElem? e)).2.2.2.1]; exact h2⟩, h.ok, h.ne⟩
theorem Grid.set {H0 H : Hp} {d g c F : Addr} {m : Nat} {as : List Addr} {rs : List (List Int)} (h : Grid H0 d g c F m H as rs) {i j : Nat} {a : Addr} {r : List Int} {n : Int} (ea : as[i]? = some a) (er : rs[i]? = some r) (hn : Sm13 n) : Grid H0 d g c F m (upd H a (.lst ((r.map V.int).set j (.int n)))) as (rs.set i (r.set j n)) := by
  have hi : i < rs.length := (List.getElem?_eq_some_iff.mp er).1
  refine ⟨by rw [List.length_set, h.len], h.nd, fun {i' b} e => ?_, fun x hx => ?_, h.ne⟩
  · by_cases e2 : i' = i
    · subst e2
      rw [ea] at e
      cases e
      exact ⟨r.set j n, by rw [List.getElem?_set_self hi], by rw [upd_same, List.map_set]⟩
    · obtain ⟨r', h1, h2⟩ := h.get e
      have nb : b ≠ a := fun z => by
        rw [z] at e
        exact e2 (nd_inj h.nd e ea)
      refine ⟨r', by rw [List.getElem?_set_ne (fun z => e2 z.symm)]; exact h1, by rw [upd_ne nb]; exact h2⟩
  · rcases List.mem_or_eq_of_mem_set hx with m1 | m1
    · exact h.ok x m1
    · rw [m1]
      obtain ⟨l1, l2⟩ := h.ok r (List.mem_of_getElem? er)
      refine ⟨by rw [List.length_set]; exact l1, fun y hy => ?_⟩
      rcases List.mem_or_eq_of_mem_set hy with m2 | m2
      · exact l2 y m2
      · rw [m2]
        exact hn
def spTab : Sp := fun vs H Q _ => ∃ (d g c : Addr) (k p : Int) (m : Nat), vs = [.ref d, .int p, .int m] ∧ Dk d g c k H ∧ k ≤ 900000 ∧ 2 ≤ p ∧ p ≤ 13 ∧ m ≤ 10 ∧
  ∀ (t : Addr) (ys : List V) (rs : List (List Int)) (H' : Hp), H' t = some (.tup ys) → Trs H' ys rs → rs.length = m → (∀ r ∈ rs, r.length ≤ 10 ∧ ∀ n ∈ r, Sm13 n) → Dk d g c (k + 220) H' → Fr d g H H' → Q (.ref t) H'
theorem rep_one {α : Type} (x : α) : ∀ k : Nat, (List.replicate k [x]).flatten = List.replicate k x
  | 0 => rfl
  | k + 1 => by
    rw [List.replicate_succ, List.flatten_cons, rep_one x k]
    rfl
theorem ixN_nat {n j : Nat} (h : j < n) : ixN n (j : Int) = some j := by
  unfold ixN
  rw [if_pos (by omega), if_pos (by omega)]
  rfl
theorem ixN_seqN {n j : Nat} (h : j < n) : seqIndex? (j : Int) n = some j := (ixN_seq (ixN_nat h)).1
set_option maxHeartbeats 2000000 in
theorem ok__law_table (T : Tx K mg A) : FnOk P w K mg base CX0 2 A.f__law_table A.d__law_table ["_law_deck_here", "_law_p", "_law_posts"] spTab := by
  have G__law_next : FnOk P w K mg base CX0 1 A.f__law_next A.d__law_next ["_law_deck_here", "_law_many"] spNext := ok__law_next T
  refine T.d__law_table.F.ok sc__law_table (fun vs H Q E h => ?_) (fun cdv A outer s H vs Q E hr h => ?_)
  · obtain ⟨d, g, c, k, p, m, rfl, _⟩ := h
    rfl
  · obtain ⟨d, g, c, k, p, m, rfl, D0, hk, p2, p13, hm, q⟩ := h
    refine ⟨_, (pss_cons (ps_setLc (i := 3) (own := [("_law_k", 4)]) rfl sc__law_table.nd rfl rfl (sw_true rfl rfl rfl (by decide +kernel)) (pi_range1 (by rfl) T.b_range (pa_cons (pv 2) pa_nil)) (blkOk_by (N := N__law_table) (sc := defScope s__law_table) (by decide +kernel)) (fun _ _ _ _ _ => (pg_name (i := 4) sc__law_table.nd rfl (.inl rfl))) (fun _ _ _ _ _ => pts_nil) (fun _ _ _ _ _ => (pe_op op_rep (pe_lst (pa_cons pe_int pa_nil)) (pv 2))))
        (pss_cons (ps_for PassesOwn.never rfl (pi_range1 (by rfl) T.b_range (pa_cons (pv 2) pa_nil)) (pg_name (i := 4) sc__law_table.nd rfl (.inl rfl))
        (pss_one (ps_for PassesOwn.never rfl (pi_range2 (by rfl) T.b_range (pa_cons (pv 4) (pa_cons (pv 2) pa_nil))) (pg_name (i := 5) sc__law_table.nd rfl (.inl rfl))
        (pss_cons (ps_set (i := 6) sc__law_table.nd rfl (.inl rfl) (pe_op op_mul (pe_call G__law_next hr (by rfl) T.d__law_next.g T.d__law_next.F.kp T.d__law_next.b .nil pass0 (pa_cons (pv 0) (pa_cons (pv 1) pa_nil))) (pe_callTy call_int1 (by rfl) T.b_int PyProof.Rows.boot_int (pa_cons (pe_cmpR op_gt (pe_call G__law_next hr (by rfl) T.d__law_next.g T.d__law_next.F.kp T.d__law_next.b .nil pass0 (pa_cons (pv 0) (pa_cons pe_int pa_nil))) pe_int (nomark _)) pa_nil))))
        (pss_cons (ps_asg (pv 6) (pg_sub (pe_ix ix_list (pv 3) (pv 4) (fun _ _ => rfl)) (pv 5) set_list))
        (pss_one (ps_asg (pv 6) (pg_sub (pe_ix ix_list (pv 3) (pv 5) (fun _ _ => rfl)) (pv 4) set_list))))))))
        (pss_one (ps_ret (pe_callTy call_tuple_of (by rfl) T.b_tuple PyProof.Rows.boot_tuple (pa_cons (pe_lc (own := [("_law_row", 7)]) rfl sc__law_table.nd (pi_list (pv 3)) (blkOk_by (N := N__law_table) (sc := defScope s__law_table) (by decide +kernel)) (fun _ _ _ _ _ => (pg_name (i := 7) sc__law_table.nd rfl (.inl rfl))) (fun _ _ _ _ _ => pts_nil) (fun _ _ _ _ _ => (pe_callTy (show CallR _ _ (rTupOf K) from call_tuple_of) (by rfl) T.b_tuple PyProof.Rows.boot_tuple (pa_cons (pv 7) pa_nil)))) pa_nil)))))), ?_⟩
    refine ⟨.int m, rfl, m, rfl, by omega, by omega, fun F hF => lc_range (fun i H' => Same H H' ∧ ∃ as, H' F = some (.lst (as.map V.ref)) ∧ as.length = i ∧ Grid H d g c F m H' as (List.replicate i (List.replicate m 0))) ⟨same_upd hF, [], upd_same, rfl, ⟨rfl, List.nodup_nil, fun e => by simp at e, fun r hr => by simp at hr, fun a ha => by cases ha⟩⟩ ?_ ?_⟩
    · rintro i H1 hi ⟨s1, as, eF, al, gr⟩
      rw [Int.toNat_natCast] at hi
      have D1 := D0.same s1
      refine ⟨rfl, (by show 1 ≤ sizeLine; decide), fun a1 h1 => ⟨.int m, rfl, a1, _, _, rfl, rfl, upd_same, by omega, by omega, ?_, fun a2 h2 => ?_⟩⟩
      · exact Nat.le_of_lt (small (by show 1 * ((m : Nat) : Int).toNat ≤ 1000; omega))
      rw [rep_one, Int.toNat_natCast]
      have S2 : Same H1 (upd (upd H1 a1 (.lst [.int 0])) a2 (.lst (List.replicate m (V.int 0)))) := (same_upd h1).trans (same_upd h2)
      have n2 := (D1.same (same_upd (o := .lst [.int 0]) h1)).nd h2
      have h2' : H1 a2 = none := (same_upd h1).free h2
      have h2'' : H a2 = none := s1.free h2'
      have nF : F ≠ a2 := ne_of_none eF h2'
      have e2 : upd (upd H1 a1 (.lst [.int 0])) a2 (.lst (List.replicate m (V.int 0))) a2 = some (.lst (List.replicate m (V.int 0))) := upd_same
      have eF2 := S2 _ _ eF
      have gr2 := gr.fr (Fr.of_same S2)
      generalize upd (upd H1 a1 (.lst [.int 0])) a2 (.lst (List.replicate m (V.int 0))) = H2 at S2 e2 eF2 gr2 ⊢
      refine ⟨_, eF2, by rw [List.length_map]; exact small (by omega), same_put (s1.trans S2) hF, as ++ [a2], by rw [upd_same, List.map_append]; rfl, by rw [List.length_append, al]; rfl, ?_⟩
      refine ⟨by rw [List.length_append, al, List.length_replicate]; rfl, ?_, fun {j b} e => ?_, fun r hr' => ?_, fun b hb => ?_⟩
      · rw [List.nodup_append]
        refine ⟨gr.nd, by simp, fun x hx y hy => ?_⟩
        rw [List.mem_singleton.mp hy]
        intro z
        subst z
        obtain ⟨j, hj, ej⟩ := List.mem_iff_getElem.mp hx
        obtain ⟨r, _, h3⟩ := gr.get (List.getElem?_eq_getElem hj)
        rw [ej, h2'] at h3
        cases h3
      · rcases get_snoc e with ⟨hj, e⟩ | ⟨hj, rfl⟩
        · obtain ⟨r, h3, h4⟩ := gr2.putF (o := .lst (as.map V.ref ++ [V.ref a2])) |>.get e
          refine ⟨r, ?_, h4⟩
          rw [List.replicate_succ', List.getElem?_append_left (by rw [List.length_replicate]; omega)]
          exact h3
        · refine ⟨List.replicate m 0, ?_, by rw [upd_ne nF.symm, e2, List.map_replicate]⟩
          rw [hj, al, List.getElem?_replicate, if_pos (Nat.lt_succ_self i)]
      · rw [(List.mem_replicate.mp hr').2]
        exact ⟨List.length_replicate, fun n hn => by rw [(List.mem_replicate.mp hn).2]; exact sm13 (by decide) (by decide)⟩
      · rcases List.mem_append.mp hb with hb | hb
        · exact gr.ne b hb
        · rw [List.mem_singleton.mp hb]
          exact ⟨n2.1, n2.2.1, n2.2.2, nF.symm, h2''⟩
    · rintro H1 ⟨s1, as, eF, al, gr⟩
      rw [Int.toNat_natCast] at al gr
      have nF := D0.nd hF
      have D1 := D0.same s1
      refine ⟨.int m, rfl, m, rfl, by omega, by omega, for_range (fun i σ H' => ∃ v4 v5 v6 v7 rs, σ = [some (.ref d), some (.int p), some (.int m), some (.ref F), v4, v5, v6, v7] ∧ Dk d g c (k + 20 * i) H' ∧ Fr d g H H' ∧ H' F = some (.lst (as.map V.ref)) ∧ Grid H d g c F m H' as rs) ⟨_, _, _, _, _, rfl, D1.mono (by omega), .of_same s1, eF, gr⟩ ?_ ?_⟩
      · rintro i σ H2 hi ⟨v4, v5, v6, v7, rs, rfl, D2, f2, eF2, gr2⟩
        rw [Int.toNat_natCast] at hi
        have e0 : (0 + (i : Nat) : Int) = (i : Nat) := by omega
        rw [e0]
        refine ⟨.int (i : Nat), rfl, .int m, rfl, (i : Nat), m, rfl, ⟨by omega, by omega, by omega, by omega⟩, for_range (fun j σ H' => ∃ v5 v6 rs, σ = [some (.ref d), some (.int p), some (.int m), some (.ref F), some (.int (i : Nat)), v5, v6, v7] ∧ Dk d g c (k + 20 * i + 2 * j) H' ∧ Fr d g H H' ∧ H' F = some (.lst (as.map V.ref)) ∧ Grid H d g c F m H' as rs) ⟨_, _, _, rfl, D2.mono (by omega), f2, eF2, gr2⟩ ?_ ?_⟩
        · rintro j σ H3 hj ⟨v5, v6, rs, rfl, D3, f3, eF3, gr3⟩
          have hj' : i + j < m := by omega
          have e1 : ((i : Nat) + (j : Nat) : Int) = ((i + j : Nat) : Int) := by omega
          rw [e1]
          refine ⟨.ref d, rfl, .int p, rfl, d, g, c, _, p, rfl, by omega, by omega, D3, by omega, fun r H4 r0 r1 D4 f4 => ?_⟩
          refine ⟨.ref d, rfl, d, g, c, _, 3, rfl, by decide, by decide, D4, by omega, fun r2 H5 _ _ D5 f5 => ?_⟩
          have f35 := f4.trans f5
          have eF5 := f35 F _ nF.1 nF.2.1 eF3
          have gr5 := gr3.fr f35
          refine ⟨r2, 0, rfl, rfl, .inr ⟨_, rfl, r, _, rfl, rfl, .inl ⟨by omega, by omega⟩, ?_⟩⟩
          have hz : Sm13 (r * (if decide (0 < r2) = true then 1 else 0)) := by
            cases decide (0 < r2) with
            | true =>
              show Sm13 (r * 1)
              rw [Int.mul_one]
              exact sm13 r0 (by omega)
            | false =>
              show Sm13 (r * 0)
              rw [Int.mul_zero]
              exact sm13 (by decide) (by decide)
          dsimp only
          generalize r * (if decide (0 < r2) = true then 1 else 0) = n at hz ⊢
          have rl5 := gr5.len
          -- found[k][j]
          have ea1 : as[i]? = some as[i] := List.getElem?_eq_getElem (by omega)
          have ea2 : as[i + j]? = some as[i + j] := List.getElem?_eq_getElem (by omega)
          obtain ⟨q1, eq1, hq1⟩ := gr5.get ea1
          have ql1 := (gr5.ok q1 (List.mem_of_getElem? eq1)).1
          refine ⟨.int n, rfl, .ref F, rfl, .int (i : Nat), rfl, F, _, (i : Nat), .ref as[i], rfl, rfl, SqL.of eF5, atI_nat (by rw [List.getElem?_map, ea1]; rfl), .int ((i + j : Nat)), rfl, as[i], _, ((i + j : Nat) : Int), i + j, rfl, rfl, hq1, ixN_nat (by rw [List.length_map]; omega), ?_⟩
          have gr6 := gr5.set (j := i + j) ea1 eq1 hz
          have ne1 := gr5.ne _ (List.mem_of_getElem? ea1)
          have D6 := D5.put (o := .lst ((q1.map V.int).set (i + j) (.int n))) ne1.1 ne1.2.1 ne1.2.2.1
          have eF6 : upd H5 as[i] (.lst ((q1.map V.int).set (i + j) (.int n))) F = some (.lst (as.map V.ref)) := by
            rw [upd_ne ne1.2.2.2.1.symm]
            exact eF5
          have f6 : Fr d g H (upd H5 as[i] (.lst ((q1.map V.int).set (i + j) (.int n)))) := fun b o e1 e2 e => by
            rw [upd_ne (ne_of_none e ne1.2.2.2.2)]
            exact f35 _ _ e1 e2 (f3 _ _ e1 e2 e)
          generalize upd H5 as[i] (.lst ((q1.map V.int).set (i + j) (.int n))) = H6 at gr6 D6 eF6 f6 ⊢
          -- found[j][k]
          obtain ⟨q2, eq2, hq2⟩ := gr6.get ea2
          have ql2 := (gr6.ok q2 (List.mem_of_getElem? eq2)).1
          refine ⟨.int n, rfl, .ref F, rfl, .int ((i + j : Nat)), rfl, F, _, ((i + j : Nat) : Int), .ref as[i + j], rfl, rfl, SqL.of eF6, atI_nat (by rw [List.getElem?_map, ea2]; rfl), .int (i : Nat), rfl, as[i + j], _, (i : Nat), i, rfl, rfl, hq2, ixN_nat (by rw [List.length_map]; omega), ?_⟩
          have gr7 := gr6.set (j := i) ea2 eq2 hz
          have ne2 := gr6.ne _ (List.mem_of_getElem? ea2)
          have D7 := D6.put (o := .lst ((q2.map V.int).set i (.int n))) ne2.1 ne2.2.1 ne2.2.2.1
          refine ⟨_, _, _, rfl, D7.mono (by omega), fun b o e1 e2 e => ?_, ?_, gr7⟩
          · rw [upd_ne (ne_of_none e ne2.2.2.2.2)]
            exact f6 _ _ e1 e2 e
          · rw [upd_ne ne2.2.2.2.1.symm]
            exact eF6
        · rintro σ H3 ⟨v5, v6, rs, rfl, D3, f3, eF3, gr3⟩
          exact ⟨_, _, _, _, _, rfl, D3.mono (by omega), f3, eF3, gr3⟩
      · rintro σ H2 ⟨v4, v5, v6, v7, rs, rfl, D2, f2, eF2, gr2⟩
        rw [Int.toNat_natCast] at D2
        have rl2 := gr2.len
        refine ⟨.ref F, rfl, F, rfl, ⟨_, SqL.of eF2⟩, fun D hD => lc_it (walk_list (xs := as.map V.ref)) (fun i H' => Same H2 H' ∧ ∃ ys, H' D = some (.lst ys) ∧ Trs H' ys (rs.take i)) ⟨same_upd hD, [], upd_same, rfl, fun e => by simp at e⟩ (fun i H' _ h => SqL.of (h.1 _ _ eF2)) ?_ ?_⟩
        · rintro i x H3 H4 hi ⟨s3, ys, eD, tr⟩ ⟨rfl, hx⟩
          rw [List.getElem?_map] at hx
          obtain ⟨a, ea, rfl⟩ := Option.map_eq_some_iff.mp hx
          obtain ⟨r, er, hr2⟩ := gr2.get ea
          have yl := tr.len
          rw [List.length_take] at yl
          have hi' : i < rs.length := (List.getElem?_eq_some_iff.mp er).1
          refine ⟨rfl, .ref a, rfl, a, _, rfl, .inl ⟨SqL.of (s3 _ _ hr2), fun t ht => ?_⟩⟩
          have nD : D ≠ t := ne_of_none eD ht
          have eD2 : upd H4 t (.tup (r.map V.int)) D = some (.lst ys) := by
            rw [upd_ne nD]
            exact eD
          refine ⟨ys, eD2, small (by omega), same_put (s3.trans (same_upd ht)) hD, ys ++ [.ref t], upd_same, ?_, fun {j y} e => ?_⟩
          · rw [List.length_append, List.length_take]
            show ys.length + 1 = _
            omega
          · rw [take_snoc er]
            rcases get_snoc e with ⟨hj, e⟩ | ⟨hj, rfl⟩
            · obtain ⟨b, r', h1, h2, h3⟩ := tr.get e
              refine ⟨b, r', h1, ?_, ?_⟩
              · rw [List.getElem?_append_left (by rw [List.length_take]; omega)]
                exact h2
              · rw [upd_ne (ne_of (same_upd (o := .tup (r.map V.int)) ht _ _ h3) eD2 (by intro z; cases z))]
                exact same_upd ht _ _ h3
            · refine ⟨t, r, rfl, ?_, by rw [upd_ne nD.symm]; exact upd_same⟩
              have e3 : (rs.take i).length = j := by rw [List.length_take]; omega
              rw [← e3]
              exact snoc_at
        · rintro H3 ⟨s3, ys, eD, tr⟩
          rw [List.length_map, List.take_of_length_le (by omega)] at tr
          refine ⟨D, _, rfl, .inl ⟨SqL.of eD, fun t ht => ?_⟩⟩
          refine q t ys rs _ upd_same (tr.same (same_upd ht)) (by omega) (fun r hr' => ?_) (((D2.same s3).same (same_upd ht)).mono (by omega)) ((f2.trans (.of_same s3)).trans (.new ht))
          obtain ⟨l1, l2⟩ := gr2.ok r hr'
          exact ⟨by omega, l2⟩
/-! ### gadgets -/
def spGad : Sp := fun vs H Q _ => ∃ (d g c : Addr) (k p : Int), vs = [.ref d, .int p] ∧ Dk d g c k H ∧ k ≤ 800000 ∧ 2 ≤ p ∧ p ≤ 13 ∧
  ∀ (x : V) (gg : Gad) (H' : Hp), GadAt H' x gg → GadOk gg → Dk d g c (k + 300) H' → Fr d g H H' → Q x H'
theorem ok__law_gadget (T : Tx K mg A) : FnOk P w K mg base CX0 3 A.f__law_gadget A.d__law_gadget ["_law_deck_here", "_law_p"] spGad := by
  have G__law_next : FnOk P w K mg base CX0 1 A.f__law_next A.d__law_next ["_law_deck_here", "_law_many"] spNext := ok__law_next T
  have G__law_hold : FnOk P w K mg base CX0 2 A.f__law_hold A.d__law_hold ["_law_deck_here", "_law_posts"] spHold := ok__law_hold T
  have G__law_table : FnOk P w K mg base CX0 2 A.f__law_table A.d__law_table ["_law_deck_here", "_law_p", "_law_posts"] spTab := ok__law_table T
  refine T.d__law_gadget.F.ok sc__law_gadget (fun vs H Q E h => ?_) (fun cdv A outer s H vs Q E hr h => ?_)
  · obtain ⟨d, g, c, k, p, rfl, _⟩ := h
    rfl
  · obtain ⟨d, g, c, k, p, rfl, D0, hk, p2, p13, q⟩ := h
    refine ⟨_, (pss_cons (ps_set (i := 2) sc__law_gadget.nd rfl (.inl rfl) (pe_ix ix_tup (pe_tup (pa_cons pe_str (pa_cons pe_str (pa_cons pe_str (pa_cons pe_str (pa_cons pe_str pa_nil)))))) (pe_call G__law_next (hr.mono (by decide)) (by rfl) T.d__law_next.g T.d__law_next.F.kp T.d__law_next.b .nil pass0 (pa_cons (pv 0) (pa_cons pe_int pa_nil))) (fun _ _ => rfl)))
        (pss_cons (ps_if (pt_cmpR op_eq (pv 2) pe_str (nomark _))
        (pss_cons (ps_set (i := 3) sc__law_gadget.nd rfl (.inl rfl) (pe_call G__law_next (hr.mono (by decide)) (by rfl) T.d__law_next.g T.d__law_next.F.kp T.d__law_next.b .nil pass0 (pa_cons (pv 0) (pa_cons pe_int pa_nil))))
        (pss_one (ps_ret (pe_tup (pa_cons (pv 2) (pa_cons (pe_call G__law_hold hr (by rfl) T.d__law_hold.g T.d__law_hold.F.kp T.d__law_hold.b .nil pass0 (pa_cons (pv 0) (pa_cons (pv 3) pa_nil))) (pa_cons (pe_call G__law_table hr (by rfl) T.d__law_table.g T.d__law_table.F.kp T.d__law_table.b .nil pass0 (pa_cons (pv 0) (pa_cons (pv 1) (pa_cons (pv 3) pa_nil)))) pa_nil)))))))
        pss_nil)
        (pss_cons (ps_if (pt_cmpR op_in_seq (pv 2) (pe_tup (pa_cons pe_str (pa_cons pe_str pa_nil))) (by rfl))
        (pss_one (ps_ret (pe_tup (pa_cons (pv 2) (pa_cons (pe_op op_add pe_int (pe_call G__law_next (hr.mono (by decide)) (by rfl) T.d__law_next.g T.d__law_next.F.kp T.d__law_next.b .nil pass0 (pa_cons (pv 0) (pa_cons pe_int pa_nil)))) pa_nil)))))
        pss_nil)
        (pss_one (ps_ret (pe_tup (pa_cons (pv 2) (pa_cons (pe_call G__law_next (hr.mono (by decide)) (by rfl) T.d__law_next.g T.d__law_next.F.kp T.d__law_next.b .nil pass0 (pa_cons (pv 0) (pa_cons (pv 1) pa_nil))) pa_nil)))))))), ?_⟩
    refine ⟨(by show 5 ≤ sizeLine; decide), fun t ht => ?_⟩
    have nt := D0.nd ht
    refine ⟨.ref d, rfl, d, g, c, k, 5, rfl, by decide, by decide, D0.same (same_upd ht), by omega, fun r H1 r0 r1 D1 f1 => ?_⟩
    have et := f1 t _ nt.1 nt.2.1 upd_same
    have f01 : Fr d g H H1 := (Fr.new ht).trans f1
    have num : ∀ (w : Str), (w = "spring" ∨ w = "lever" ∨ w = "knot" ∨ w = "ring") → ∀ (n : Int) (H2 : Hp) (t2 : Addr), Sm13 n → Dk d g c (k + 2) H2 → Fr d g H H2 → H2 t2 = none → Q (.ref t2) (upd H2 t2 (.tup [.str w, .int n])) := fun w hw n H2 t2 hn D2 f2 h2 => q (.ref t2) (.num w n) _ ⟨t2, rfl, upd_same⟩ ⟨hw, hn⟩ ((D2.same (same_upd h2)).mono (by omega)) (f2.trans (.new h2))
    have knot : ∀ (w : Str), (w = "knot" ∨ w = "ring") → ∀ (H1' : Hp) (Nx : L2.St → Hp → Prop) (v3 : Option V), Same H1 H1' → tRet (tTup (tCons (tVar 2) (tCons (tOp (rI0 fun i j => V.int (i + j)) (tC (.int 2)) (tCall spNext [] E0 (tCons (tVar 0) (tCons (tC (.int 9)) tNil)))) tNil))) { nx := Nx, rt := Q } [some (.ref d), some (.int p), some (.str w), v3] H1' := fun w hw H1' Nx v3 s1 => by
      refine ⟨.str w, rfl, .ref d, rfl, d, g, c, _, 9, rfl, by decide, by decide, D1.same s1, by omega, fun n H2 n0 n1 D2 f2 => ⟨2, n, rfl, rfl, (by show 2 ≤ sizeLine; decide), fun t2 h2 => ?_⟩⟩
      exact num w (by rcases hw with h | h; exact .inr (.inr (.inl h)); exact .inr (.inr (.inr h))) (2 + n) H2 t2 (sm13 (by omega) (by omega)) (D2.mono (by omega)) ((f01.trans (.of_same s1)).trans f2) h2
    have plain : ∀ (w : Str), (w = "spring" ∨ w = "lever") → ∀ (H1' : Hp) (v3 : Option V), Same H1 H1' → tRet (tTup (tCons (tVar 2) (tCons (tCall spNext [] E0 (tCons (tVar 0) (tCons (tVar 1) tNil))) tNil))) { nx := fun _ H' => Q .non H', rt := Q } [some (.ref d), some (.int p), some (.str w), v3] H1' := fun w hw H1' v3 s1 => by
      refine ⟨.str w, rfl, .ref d, rfl, .int p, rfl, d, g, c, _, p, rfl, by omega, by omega, D1.same s1, by omega, fun n H2 n0 n1 D2 f2 => ⟨(by show 2 ≤ sizeLine; decide), fun t2 h2 => ?_⟩⟩
      exact num w (by rcases hw with h | h; exact .inl h; exact .inr (.inl h)) n H2 t2 (sm13 n0 (by omega)) (D2.mono (by omega)) ((f01.trans (.of_same s1)).trans f2) h2
    rcases (show r = 0 ∨ r = 1 ∨ r = 2 ∨ r = 3 ∨ r = 4 by omega) with rfl | rfl | rfl | rfl | rfl
    · refine ⟨t, _, 0, .str ("spring" : Str), rfl, rfl, SqT.of et, atI_nat (j := 0) rfl, ?_⟩
      refine ⟨_, rfl, rfl, false, bl_f (str_ne (by decide +kernel)), ?_⟩
      refine ⟨_, rfl, (by show 2 ≤ sizeLine; decide), fun t3 h3 => ⟨t3, _, rfl, .inr (SqT.of upd_same), rfl, rfl, false, by decide +kernel, ?_⟩⟩
      exact plain "spring" (.inl rfl) _ _ (same_upd h3)
    · refine ⟨t, _, 1, .str ("lever" : Str), rfl, rfl, SqT.of et, atI_nat (j := 1) rfl, ?_⟩
      refine ⟨_, rfl, rfl, false, bl_f (str_ne (by decide +kernel)), ?_⟩
      refine ⟨_, rfl, (by show 2 ≤ sizeLine; decide), fun t3 h3 => ⟨t3, _, rfl, .inr (SqT.of upd_same), rfl, rfl, false, by decide +kernel, ?_⟩⟩
      exact plain "lever" (.inr rfl) _ _ (same_upd h3)
    · refine ⟨t, _, 2, .str ("knot" : Str), rfl, rfl, SqT.of et, atI_nat (j := 2) rfl, ?_⟩
      refine ⟨_, rfl, rfl, false, bl_f (str_ne (by decide +kernel)), ?_⟩
      refine ⟨_, rfl, (by show 2 ≤ sizeLine; decide), fun t3 h3 => ⟨t3, _, rfl, .inr (SqT.of upd_same), rfl, rfl, true, by decide +kernel, ?_⟩⟩
      exact knot "knot" (.inl rfl) _ _ _ (same_upd h3)
    · refine ⟨t, _, 3, .str ("ring" : Str), rfl, rfl, SqT.of et, atI_nat (j := 3) rfl, ?_⟩
      refine ⟨_, rfl, rfl, false, bl_f (str_ne (by decide +kernel)), ?_⟩
      refine ⟨_, rfl, (by show 2 ≤ sizeLine; decide), fun t3 h3 => ⟨t3, _, rfl, .inr (SqT.of upd_same), rfl, rfl, true, by decide +kernel, ?_⟩⟩
      exact knot "ring" (.inr rfl) _ _ _ (same_upd h3)
    · refine ⟨t, _, 4, .str ("table" : Str), rfl, rfl, SqT.of et, atI_nat (j := 4) rfl, ?_⟩
      refine ⟨_, rfl, rfl, true, bl_t rfl, ?_⟩
      refine ⟨.ref d, rfl, d, g, c, _, 5, rfl, by decide, by decide, D1, by omega, fun m' H2 m0 m1 D2 f2 => ?_⟩
      obtain ⟨m, rfl⟩ := Int.eq_ofNat_of_zero_le m0
      refine ⟨_, rfl, .ref d, rfl, .int m, rfl, d, g, c, _, m, rfl, D2, by omega, by omega, fun th hs H3 hsm hsl eh D3 f3 => ?_⟩
      refine ⟨.ref d, rfl, .int p, rfl, .int m, rfl, d, g, c, _, p, m, rfl, D3, by omega, p2, p13, by omega, fun tt ys rs H4 e4 tr rl rok D4 f4 => ⟨(by show 3 ≤ sizeLine; decide), fun t5 h5 => ?_⟩⟩
      have eh4 := f4.tup D3 eh
      refine q (.ref t5) (.tab hs rs) _ ⟨t5, th, tt, ys, rfl, upd_same, same_upd h5 _ _ eh4, same_upd h5 _ _ e4, tr.same (same_upd h5)⟩ ⟨by omega, by omega, hsm, rok⟩ ((D4.same (same_upd h5)).mono (by omega)) ((((f01.trans f2).trans f3).trans f4).trans (.new h5))
def gW : Gad → Int
  | .num w n => if w = "spring" then 1 else if w = "lever" then 2 else n
  | .tab hs _ => hs.length
theorem gW_ok {g : Gad} (h : GadOk g) : Sm13 (gW g) := by
  cases g with
  | num w n =>
    obtain ⟨hw, hn⟩ := h
    show Sm13 (if w = "spring" then 1 else if w = "lever" then 2 else n)
    by_cases h1 : w = "spring"
    · rw [if_pos h1]
      exact sm13 (by decide) (by decide)
    · rw [if_neg h1]
      by_cases h2 : w = "lever"
      · rw [if_pos h2]
        exact sm13 (by decide) (by decide)
      · rw [if_neg h2]
        exact hn
  | tab hs rs =>
    obtain ⟨h1, _⟩ := h
    exact sm13 (by show (0 : Int) ≤ hs.length; omega) (by show (hs.length : Int) ≤ 30; omega)
def spWidth : Sp := fun vs H Q _ => ∃ (x : V) (g : Gad), vs = [x] ∧ GadAt H x g ∧ GadOk g ∧ ∀ H', Same H H' → Q (.int (gW g)) H'
theorem ok__law_width (T : Tx K mg A) : FnOk P w K mg base CX0 1 A.f__law_width A.d__law_width ["_law_gadget_here"] spWidth := by
  refine T.d__law_width.F.ok sc__law_width (fun vs H Q E h => ?_) (fun cdv A outer s H vs Q E hr h => ?_)
  · obtain ⟨x, g, rfl, _⟩ := h
    rfl
  · obtain ⟨x, g, rfl, hg, ok, q⟩ := h
    refine ⟨_, (pss_cons (ps_if (pt_cmpR op_eq (pe_ix ix_tup (pv 0) pe_int (fun _ _ => rfl)) pe_str (nomark _))
        (pss_one (ps_ret (pe_callB call_len_seq (by rfl) T.b_len PySem.boot_len (pa_cons (pe_ix ix_tup (pv 0) pe_int (fun _ _ => rfl)) pa_nil))))
        pss_nil)
        (pss_one (ps_ret (pe_dget2 (hu_of hr) (pe_disp (pps_cons pe_str pe_int (pps_cons pe_str pe_int pps_nil)) rfl rfl (by simp) (by decide)) (pe_ix ix_tup (pv 0) pe_int (fun _ _ => rfl)) (pe_ix ix_tup (pv 0) pe_int (fun _ _ => rfl)) ⟨by rfl, by rfl, by rfl, by rfl⟩)))), ?_⟩
    cases g with
    | num w n =>
      obtain ⟨a, rfl, ha⟩ := hg
      obtain ⟨hw, hn⟩ := ok
      have at1 : atI [V.str w, V.int n] 1 = some (.int n) := atI_nat (j := 1) rfl
      refine ⟨.ref a, rfl, a, _, 0, .str w, rfl, rfl, SqT.of ha, atI_zero, rfl, false, bl_f (str_ne (word_ne hw)), ?_⟩
      intro e he
      have ha2 : ∀ o : HO, upd (upd H e (.dK [])) e o a = some (.tup [.str w, .int n]) := fun o => by
        rw [upd_ne (ne_of_none ha he), upd_ne (ne_of_none ha he)]
        exact ha
      refine ⟨upd_same, [(Sum.inr ("spring" : Str), .int 1), (Sum.inr ("lever" : Str), .int 2)], rfl, by decide, e, rfl, .inl ⟨_, .inl upd_same⟩, .ref a, rfl, a, _, 0, .str w, rfl, rfl, SqT.of (ha2 _), atI_zero, .ref a, rfl, a, _, 1, .int n, rfl, rfl, SqT.of (ha2 _), at1, _, DGet.k (k := Sum.inr w) upd_same, ?_⟩
      have s2 : Same H (upd (upd H e (.dK [])) e (.dK (mergeK [] [(Sum.inr ("spring" : Str), V.int 1), (Sum.inr ("lever" : Str), V.int 2)]))) := same_put (same_upd he) he
      have ev : (valV (mergeK [] [((Sum.inr ("spring" : Str) : Key), V.int 1), (Sum.inr ("lever" : Str), V.int 2)]) (Sum.inr w)).getD (V.int n) = V.int (gW (.num w n)) := by
        rcases hw with rfl | rfl | rfl | rfl <;> rfl
      rw [ev]
      exact q _ s2
    | tab hs rs =>
      obtain ⟨a, b, c, ys, rfl, ha, hb, hc, htr⟩ := hg
      have at1 : atI [V.str ("table" : Str), V.ref b, V.ref c] 1 = some (.ref b) := atI_nat (j := 1) rfl
      refine ⟨.ref a, rfl, a, _, 0, .str ("table" : Str), rfl, rfl, SqT.of ha, atI_zero, rfl, true, bl_t rfl, ?_⟩
      refine ⟨.ref a, rfl, a, _, 1, .ref b, rfl, rfl, SqT.of ha, at1, b, _, rfl, .inr (SqT.of hb), ?_⟩
      rw [List.length_map]
      exact q H (Same.refl _)
theorem map_erase {α β : Type} (f : α → β) : ∀ (l : List α) (i : Nat), (l.map f).eraseIdx i = (l.eraseIdx i).map f
  | [], _ => rfl
  | _ :: _, 0 => rfl
  | x :: l, i + 1 => by
    rw [List.map_cons, List.eraseIdx_cons_succ, List.eraseIdx_cons_succ, List.map_cons, map_erase f l i]
def spShuf : Sp := fun vs H Q _ => ∃ (d g c : Addr) (k : Int) (b : Addr) (ns : List Int), vs = [.ref d, .ref b] ∧ Dk d g c k H ∧ k ≤ 900000 ∧ H b = some (.lst (ns.map V.int)) ∧ b ≠ d ∧ b ≠ g ∧ ns.length ≤ 30 ∧ (∀ n ∈ ns, Sm13 n) ∧
  ∀ (L : Addr) (ms : List Int) (H' : Hp), L ≠ d ∧ L ≠ g ∧ L ≠ c → H L = none → H' L = some (.lst (ms.map V.int)) → ms.length = ns.length → (∀ n ∈ ms, Sm13 n) → Dk d g c (k + 30) H' → Fr d g H H' → Q (.ref L) H'
theorem ok__law_shuffled (T : Tx K mg A) : FnOk P w K mg base CX0 2 A.f__law_shuffled A.d__law_shuffled ["_law_deck_here", "_law_some"] spShuf := by
  have G__law_next : FnOk P w K mg base CX0 1 A.f__law_next A.d__law_next ["_law_deck_here", "_law_many"] spNext := ok__law_next T
  refine T.d__law_shuffled.F.ok sc__law_shuffled (fun vs H Q E h => ?_) (fun cdv A outer s H vs Q E hr h => ?_)
  · obtain ⟨d, g, c, k, b, ns, rfl, _⟩ := h
    rfl
  · obtain ⟨d, g, c, k, b, ns, rfl, D0, hk, hb, bd, bg, hl, sm, q⟩ := h
    refine ⟨_, (pss_cons (ps_set (i := 2) sc__law_shuffled.nd rfl (.inr rfl) (pe_callTy call_list_of (by rfl) T.b_list PyProof.Rows.boot_list (pa_cons (pv 1) pa_nil)))
        (pss_one (ps_ret (pe_lc (own := [("_law_one", 3)]) rfl sc__law_shuffled.nd (pi_list (pv 1)) (blkOk_by (N := N__law_shuffled) (sc := defScope s__law_shuffled) (by decide +kernel)) (fun _ _ _ _ _ => (pg_name (i := 3) sc__law_shuffled.nd rfl (.inl rfl))) (fun _ _ _ _ _ => pts_nil) (fun _ _ _ _ _ => (show PE _ _ (tBM K "list" rPopAt _ _) from (pe_bm PySem.F.plainAttrs_list PySem.F.slot_list_pop PySem.F.type_list_pop mt_popAt (pv 2) (pa_cons (pe_call G__law_next hr (by rfl) T.d__law_next.g T.d__law_next.F.kp T.d__law_next.b .nil pass0 (pa_cons (pv 0) (pa_cons (pe_callB (show CallR _ _ (rLen K) from call_len_seq) (by rfl) T.b_len PySem.boot_len (pa_cons (pv 2) pa_nil)) pa_nil))) pa_nil)))))))), ?_⟩
    refine ⟨.ref b, rfl, b, _, rfl, .inl (SqL.of hb), fun l hl1 => ?_⟩
    have nl := D0.nd hl1
    have eb1 : upd H l (.lst (ns.map V.int)) b = some (.lst (ns.map V.int)) := same_upd hl1 _ _ hb
    have D1 := D0.same (same_upd (o := .lst (ns.map V.int)) hl1)
    refine ⟨.ref b, rfl, b, rfl, ⟨_, SqL.of eb1⟩, fun D hD => lc_it (walk_list (xs := ns.map V.int)) (fun i H' => Dk d g c (k + i) H' ∧ Fr d g H H' ∧ ∃ ls ms : List Int, H' l = some (.lst (ls.map V.int)) ∧ H' D = some (.lst (ms.map V.int)) ∧ ls.length + i = ns.length ∧ ms.length = i ∧ (∀ n ∈ ls, Sm13 n) ∧ ∀ n ∈ ms, Sm13 n)
      ⟨(D1.same (same_upd hD)).mono (by omega), (Fr.new hl1).trans (.new hD), ns, [], same_upd hD _ _ upd_same, upd_same, by omega, rfl, sm, by simp⟩ (fun i H' _ h => SqL.of (h.2.1 b _ bd bg hb)) ?_ ?_⟩
    · rintro i x H1 H2 hi ⟨D2, f2, ls, ms, el, eD, ll, ml, sl, sms⟩ ⟨rfl, hx⟩
      rw [List.length_map] at hi
      have nD := D1.nd hD
      have nlD : l ≠ D := ne_of_none upd_same hD
      have hD0 : H D = none := (same_upd hl1).free hD
      refine ⟨rfl, .ref l, rfl, .inl ⟨rfl, _, SqL.of el⟩, .ref d, rfl, .ref l, rfl, l, _, rfl, .inl (SqL.of el), d, g, c, _, _, rfl, by rw [List.length_map]; omega, by rw [List.length_map]; omega, D2, by omega, fun r H3 r0 r1 D3 f3 => ?_⟩
      obtain ⟨r, rfl⟩ := Int.eq_ofNat_of_zero_le r0
      rw [List.length_map] at r1
      have hr1 : r < ls.length := by omega
      have er : ls[r]? = some ls[r] := List.getElem?_eq_getElem hr1
      have el3 := f3 l _ nl.1 nl.2.1 el
      have eD3 := f3 D _ nD.1 nD.2.1 eD
      refine ⟨l, _, (r : Nat), r, .int ls[r], rfl, rfl, el3, by omega, by omega, ixN_seqN (by rw [List.length_map]; exact hr1), by rw [List.getElem?_map, er]; rfl, ms.map V.int, by rw [upd_ne nlD.symm]; exact eD3, by rw [List.length_map]; exact small (by omega), ((D3.put nl.1 nl.2.1 nl.2.2).put nD.1 nD.2.1 nD.2.2).mono (by omega), fun a o e1 e2 e => ?_, ls.eraseIdx r, ms ++ [ls[r]], ?_, ?_, ?_, ?_, fun n hn => sl n (List.mem_of_mem_eraseIdx hn), fun n hn => ?_⟩
      · rw [upd_ne (ne_of_none e hD0), upd_ne (ne_of_none e hl1)]
        exact f3 _ _ e1 e2 (f2 _ _ e1 e2 e)
      · rw [upd_ne nlD, upd_same, map_erase]
      · rw [upd_same, List.map_append]
        rfl
      · rw [List.length_eraseIdx_of_lt hr1]
        omega
      · rw [List.length_append, ml]
        rfl
      · rcases List.mem_append.mp hn with hn | hn
        · exact sms n hn
        · rw [List.mem_singleton.mp hn]
          exact sl _ (List.getElem_mem hr1)
    · rintro H1 ⟨D2, f2, ls, ms, el, eD, ll, ml, sl, sms⟩
      rw [List.length_map] at ml D2
      exact q D ms H1 (D1.nd hD) ((same_upd hl1).free hD) eD ml sms (D2.mono (by omega)) f2
/-! ### ties -/
theorem tie_join {a b : Int} (ha : Sm13 a) (hb : Sm13 b) : TieOk (("join" : Str), [a, b]) := ⟨(by decide +kernel : ("join" : Str).length ≤ 10), (by decide +kernel : PyData.leavesShort 120 (.str ("join" : Str)) = true), (by decide +kernel : ("join" : Str).cps.size ≤ 10), (by show 2 ≤ 2; decide), fun n hn => by
  rcases List.mem_cons.mp hn with rfl | hn
  · exact ha
  · rw [List.mem_singleton.mp hn]
    exact hb⟩
theorem tie_one {w : Str} {a : Int} (hw : w = "still" ∨ w = "free") (ha : Sm13 a) : TieOk (w, [a]) := by
  have h2 : ∀ n ∈ [a], Sm13 n := fun n hn => by
    rw [List.mem_singleton.mp hn]
    exact ha
  rcases hw with rfl | rfl
  · exact ⟨(by decide +kernel : ("still" : Str).length ≤ 10), (by decide +kernel : PyData.leavesShort 120 (.str ("still" : Str)) = true), (by decide +kernel : ("still" : Str).cps.size ≤ 10), (by show 1 ≤ 2; decide), h2⟩
  · exact ⟨(by decide +kernel : ("free" : Str).length ≤ 10), (by decide +kernel : PyData.leavesShort 120 (.str ("free" : Str)) = true), (by decide +kernel : ("free" : Str).cps.size ≤ 10), (by show 1 ≤ 2; decide), h2⟩
theorem last_of {ls : List Int} (h : ls ≠ []) : ∃ n, (ls.map V.int)[(ls.map V.int).length - 1]? = some (.int n) ∧ n ∈ ls := by
  have h1 : ls.length - 1 < ls.length := by
    cases ls with
    | nil => exact absurd rfl h
    | cons a b => simp
  refine ⟨ls[ls.length - 1], ?_, List.getElem_mem h1⟩
  rw [List.length_map, List.getElem?_map, List.getElem?_eq_getElem h1]
  rfl
def spTies : Sp := fun vs H Q _ => ∃ (d g c : Addr) (k : Int) (m : Nat), vs = [.ref d, .int m] ∧ Dk d g c k H ∧ k ≤ 800000 ∧ m ≤ 20 ∧
  ∀ (t : Addr) (ys : List V) (ts : List (Str × List Int)) (H' : Hp), H' t = some (.tup ys) → Ties H' ys ts → ts.length ≤ 20 → Dk d g c (k + 200) H' → Fr d g H H' → Q (.ref t) H'
set_option maxHeartbeats 2000000 in
theorem ok__law_ties (T : Tx K mg A) : FnOk P w K mg base CX0 3 A.f__law_ties A.d__law_ties ["_law_deck_here", "_law_posts"] spTies := by
  have G__law_next : FnOk P w K mg base CX0 1 A.f__law_next A.d__law_next ["_law_deck_here", "_law_many"] spNext := ok__law_next T
  have G__law_shuffled : FnOk P w K mg base CX0 2 A.f__law_shuffled A.d__law_shuffled ["_law_deck_here", "_law_some"] spShuf := ok__law_shuffled T
  refine T.d__law_ties.F.ok sc__law_ties (fun vs H Q E h => ?_) (fun cdv A outer s H vs Q E hr h => ?_)
  · obtain ⟨d, g, c, k, m, rfl, _⟩ := h
    rfl
  · obtain ⟨d, g, c, k, m, rfl, D0, hk, hm, q⟩ := h
    refine ⟨_, (pss_cons (ps_set (i := 2) sc__law_ties.nd rfl (.inl rfl) (pe_call G__law_shuffled hr (by rfl) T.d__law_shuffled.g T.d__law_shuffled.F.kp T.d__law_shuffled.b .nil pass0 (pa_cons (pv 0) (pa_cons (pe_listRg rfl (by rfl) T.b_list (prg_1 (by rfl) T.b_range (pv 1))) pa_nil))))
        (pss_cons (ps_set (i := 3) sc__law_ties.nd rfl (.inl rfl) (pe_lst pa_nil))
        (pss_cons (ps_while PassesOwn.never (PW.pt (pw_or (pt_cmpR op_gt (pe_callB call_len_seq (by rfl) T.b_len PySem.boot_len (pa_cons (pv 2) pa_nil)) pe_int (nomark _)) (pw_or1 (PW.pt (pw_and (pt_cmpR (op_neL0 (ru80 hr)) (pv 2) (pe_lst pa_nil) (nomark _)) (pw_and1 (pt_cmpR op_gt (pe_call G__law_next (hr.mono (by decide)) (by rfl) T.d__law_next.g T.d__law_next.F.kp T.d__law_next.b .nil pass0 (pa_cons (pv 0) (pa_cons pe_int pa_nil))) pe_int (nomark _))))))))
        (pss_cons (ps_set (i := 4) sc__law_ties.nd rfl (.inl rfl) (pe_bm0 PySem.F.plainAttrs_list PySem.F.slot_list_pop PySem.F.type_list_pop mt_pop (pv 2)))
        (pss_cons (ps_set (i := 5) sc__law_ties.nd rfl (.inl rfl) (pe_call G__law_next (hr.mono (by decide)) (by rfl) T.d__law_next.g T.d__law_next.F.kp T.d__law_next.b .nil pass0 (pa_cons (pv 0) (pa_cons pe_int pa_nil))))
        (pss_one (ps_if (PW.pt (pw_and (pt_cmpR op_lt (pv 5) pe_int (nomark _)) (pw_and1 (pt_cmpR (op_neL0 (ru80 hr)) (pv 2) (pe_lst pa_nil) (nomark _)))))
        (pss_cons (ps_set (i := 6) sc__law_ties.nd rfl (.inl rfl) (pe_bm0 PySem.F.plainAttrs_list PySem.F.slot_list_pop PySem.F.type_list_pop mt_pop (pv 2)))
        (pss_one (ps_expr (pe_bm PySem.F.plainAttrs_list PySem.F.slot_list_append PySem.F.type_list_append mt_append (pv 3) (pa_cons (pe_tup (pa_cons pe_str (pa_cons (pe_callB (call_min2 rfl) (by rfl) T.b_min PyProof.Rows.boot_min (pa_cons (pv 4) (pa_cons (pv 6) pa_nil))) (pa_cons (pe_callB (call_max2 rfl) (by rfl) T.b_max PyProof.Rows.boot_max (pa_cons (pv 4) (pa_cons (pv 6) pa_nil))) pa_nil)))) pa_nil)))))
        (pss_one (ps_expr (pe_bm PySem.F.plainAttrs_list PySem.F.slot_list_append PySem.F.type_list_append mt_append (pv 3) (pa_cons (pe_tup (pa_cons (pe_ix ix_list (pe_lst (pa_cons pe_str (pa_cons pe_str pa_nil))) (pe_op op_mod (pv 5) pe_int) (fun _ _ => rfl)) (pa_cons (pv 4) pa_nil))) pa_nil)))))))))
        (pss_one (ps_ret (pe_callTy call_tuple_of (by rfl) T.b_tuple PyProof.Rows.boot_tuple (pa_cons (pv 3) pa_nil))))))), ?_⟩
    refine ⟨.ref d, rfl, .int m, rfl, _, rfl, RgOk.of_le (by decide) (by omega) (by decide) (by omega), fun Pl hPl => ?_⟩
    have er : rgV 0 (m : Int) = ((List.range m).map fun i => ((i : Nat) : Int)).map V.int := by
      unfold rgV
      have e : ((m : Int) - 0).toNat = m := by omega
      rw [e, List.map_map]
      apply List.map_congr_left
      intro i _
      show V.int (0 + (i : Nat)) = V.int (i : Nat)
      rw [Int.zero_add]
    rw [er]
    have nPl := D0.nd hPl
    have smr : ∀ n ∈ (List.range m).map fun i => ((i : Nat) : Int), Sm13 n := fun n hn => by
      obtain ⟨i, hi, rfl⟩ := List.mem_map.mp hn
      have := List.mem_range.mp hi
      exact sm13 (by omega) (by omega)
    refine ⟨d, g, c, k, Pl, _, rfl, D0.same (same_upd hPl), by omega, upd_same, nPl.1, nPl.2.1, by rw [List.length_map, List.length_range]; omega, smr, fun L ms H1 nL hLn eL ml sms D1 f1 => ?_⟩
    rw [List.length_map, List.length_range] at ml
    have hL0 : H L = none := (same_upd hPl).free hLn
    have f01 : Fr d g H H1 := (Fr.new hPl).trans f1
    refine ⟨Nat.zero_le _, fun F hF => ?_⟩
    have nF := D1.nd hF
    have nLF : L ≠ F := ne_of_none eL hF
    have hF0 : H F = none := by
      cases hz : H F with
      | none => rfl
      | some o =>
        have := f01 F o nF.1 nF.2.1 hz
        rw [hF] at this
        cases this
    refine ⟨fun n σ H' => ∃ v4 v5 v6 ls ys ts, n = ls.length ∧ σ = [some (.ref d), some (.int m), some (.ref L), some (.ref F), v4, v5, v6] ∧ Dk d g c (k + 30 + 2 * (m - ls.length)) H' ∧ Fr d g H H' ∧ H' L = some (.lst (ls.map V.int)) ∧ H' F = some (.lst ys) ∧ Ties H' ys ts ∧ ts.length + ls.length ≤ m ∧ ∀ n ∈ ls, Sm13 n, ⟨ms.length, _, _, _, ms, [], [], rfl, rfl, (D1.same (same_upd hF)).mono (by omega), f01.trans (.new hF), same_upd hF _ _ eL, upd_same, .nil, by simp; omega, sms⟩, ?_⟩
    rintro mm σ H2 ⟨v4, v5, v6, ls, ys, ts, rfl, rfl, D2, f2, eL2, eF2, ti2, tl2, sm2⟩
    have fin : ∀ (H3 : Hp), Dk d g c (k + 30 + 2 * (m - ls.length) + 1) H3 → Fr d g H H3 → H3 F = some (.lst ys) → Ties H3 ys ts → tRet (tCB (fun xs H Q => ∃ p ys, xs = [.ref p] ∧ ((SqL K H p ys ∧ ∀ l, H l = none → Q (.ref l) (upd H l (.tup ys))) ∨ (SqT K H p ys ∧ Q (.ref p) H))) (tCons (tVar 3) tNil)) { nx := fun _ H' => Q .non H', rt := Q } [some (.ref d), some (.int m), some (.ref L), some (.ref F), v4, v5, v6] H3 := fun H3 D3 f3 eF3 ti3 => by
      refine ⟨.ref F, rfl, F, ys, rfl, .inl ⟨SqL.of eF3, fun t ht => ?_⟩⟩
      exact q t ys ts _ upd_same (ti3.kt (.of_same (same_upd ht))) (by omega) ((D3.same (same_upd ht)).mono (by omega)) (f3.trans (.new ht))
    refine ⟨.ref L, rfl, L, _, rfl, .inl (SqL.of eL2), _, 10, rfl, rfl, _, rfl, ite2 (fun e10 => ?g1) (fun e10 => ?gx)⟩
    case' gx =>
      refine ⟨.ref L, rfl, Nat.zero_le _, fun e0 he0 => ?_⟩
      have se : Same H2 (upd H2 e0 (.lst [])) := same_upd he0
      have ee : upd H2 e0 (.lst []) e0 = some (.lst []) := upd_same
      generalize upd H2 e0 (.lst []) = H2' at se ee ⊢
      refine ⟨L, e0, _, rfl, rfl, SqL.of (se _ _ eL2), SqL.of ee, _, rfl, ite2 (fun e1 => ?gy) (fun e1 => ?gz)⟩
    case gz => exact fin _ ((D2.same se).mono (by omega)) (f2.trans (.of_same se)) (se _ _ eF2) (ti2.kt (.of_same se))
    case' gy =>
      refine ⟨.ref d, rfl, d, g, c, _, 4, rfl, by decide, by decide, D2.same se, by omega, fun x H2 x0 x1 D3 f3' => ⟨x, 0, rfl, rfl, _, rfl, ite2 (fun e2 => ?g2) (fun e2 => ?gw)⟩⟩
    case gw => exact fin _ D3 ((f2.trans (.of_same se)).trans f3') (f3' F _ nF.1 nF.2.1 (se _ _ eF2)) ((ti2.kt (.of_same se)).kt (.of_fr (D2.same se) f3'))
    case' g1 =>
      have hne : ls ≠ [] := fun z => by
        subst z
        exact absurd (of_decide_eq_true e10) (by decide)
      have D3 : Dk d g c (k + 30 + 2 * (m - ls.length) + 1) H2 := D2.mono (by omega)
      have f3 := f2
      have eL3 := eL2
      have eF3 := eF2
      have ti3 := ti2
    case' g2 =>
      have hne : ls ≠ [] := fun z => by
        subst z
        exact absurd e1 (by decide)
      have f3 := (f2.trans (.of_same se)).trans f3'
      have eL3 := f3' L _ nL.1 nL.2.1 (se _ _ eL2)
      have eF3 := f3' F _ nF.1 nF.2.1 (se _ _ eF2)
      have ti3 := (ti2.kt (.of_same se)).kt (.of_fr (D2.same se) f3')
    all_goals
      obtain ⟨n1, en1, mn1⟩ := last_of hne
      have s1 := sm2 n1 mn1
      have ll : ls.dropLast.length = ls.length - 1 := List.length_dropLast
      have lpos : 0 < ls.length := List.length_pos_iff.mpr hne
      have sm4 : ∀ n ∈ ls.dropLast, Sm13 n := fun n hn => sm2 n (List.dropLast_subset ls hn)
      refine ⟨fun σ' H'' => ∃ n', n' < ls.length ∧ ∃ v4 v5 v6, ∃ (ls : List Int) (ys : List V) (ts : List (Str × List Int)), n' = ls.length ∧ σ' = [some (.ref d), some (.int m), some (.ref L), some (.ref F), v4, v5, v6] ∧ Dk d g c (k + 30 + 2 * (m - ls.length)) H'' ∧ Fr d g H H'' ∧ H'' L = some (.lst (ls.map V.int)) ∧ H'' F = some (.lst ys) ∧ Ties H'' ys ts ∧ ts.length + ls.length ≤ m ∧ ∀ n ∈ ls, Sm13 n, fun _ _ h => h, ?_⟩
      refine ⟨.ref L, rfl, .inl ⟨rfl, _, SqL.of eL3⟩, L, _, .int n1, rfl, rfl, eL3, en1, ?_⟩
      have eL4 : upd H2 L (.lst (ls.map V.int).dropLast) L = some (.lst (ls.dropLast.map V.int)) := by rw [upd_same, List.map_dropLast]
      have eF4 : upd H2 L (.lst (ls.map V.int).dropLast) F = some (.lst ys) := by
        rw [upd_ne nLF.symm]
        exact eF3
      have ti4 := ti3.kt (.put (o := .lst (ls.map V.int).dropLast) eL3)
      have D4 := D3.put (o := .lst (ls.map V.int).dropLast) nL.1 nL.2.1 nL.2.2
      have f4 : Fr d g H (upd H2 L (.lst (ls.map V.int).dropLast)) := fun b o e1 e2 e => by
        rw [upd_ne (ne_of_none e hL0)]
        exact f3 _ _ e1 e2 e
      generalize upd H2 L (.lst (ls.map V.int).dropLast) = H4 at eL4 eF4 ti4 D4 f4 ⊢
      refine ⟨.ref d, rfl, d, g, c, _, 4, rfl, by decide, by decide, D4, by omega, fun ch H5 c0 c1 D5 f5 => ?_⟩
      have eL5 := f5 L _ nL.1 nL.2.1 eL4
      have eF5 := f5 F _ nF.1 nF.2.1 eF4
      have ti5 := ti4.kt (.of_fr D4 f5)
      have f05 := f4.trans f5
      have ysl := ti5.len
      by_cases hc2 : ch < 2
      · refine ⟨.int ch, rfl, ch, 2, rfl, rfl, true, bl_t hc2, .ref L, rfl, Nat.zero_le _, fun e9 he9 => ?_⟩
        have s6 : Same H5 (upd H5 e9 (.lst [])) := same_upd he9
        have e6 : upd H5 e9 (.lst []) e9 = some (.lst []) := upd_same
        generalize upd H5 e9 (.lst []) = H6 at s6 e6 ⊢
        have eL6 := s6 _ _ eL5
        refine ⟨L, e9, _, rfl, rfl, SqL.of eL6, SqL.of e6, ?_⟩
        by_cases hl0 : ls.dropLast = []
        · refine ⟨false, by rw [hl0]; rfl, ?_⟩
          refine ⟨.ref F, rfl, .inl ⟨rfl, _, SqL.of (s6 _ _ eF5)⟩, (by show 2 ≤ sizeLine; decide), fun S hS => ?_⟩
          have wx : ∃ w : Str, atI [V.str ("still" : Str), V.str ("free" : Str)] (ch % 2) = some (.str w) ∧ (w = "still" ∨ w = "free") := by
            rcases (show ch % 2 = 0 ∨ ch % 2 = 1 by omega) with e | e
            · exact ⟨"still", by rw [e]; rfl, .inl rfl⟩
            · exact ⟨"free", by rw [e]; rfl, .inr rfl⟩
          obtain ⟨w', ew, hw⟩ := wx
          refine ⟨.int ch, rfl, ch, 2, rfl, rfl, (by show (0 : Int) < 2; decide), S, _, _, .str w', rfl, rfl, SqL.of upd_same, ew, .int n1, rfl, (by show 2 ≤ sizeLine; decide), fun t ht => ?_⟩
          have S7 : Same H5 (upd (upd H6 S (.lst [.str ("still" : Str), .str ("free" : Str)])) t (.tup [.str w', .int n1])) := (s6.trans (same_upd hS)).trans (same_upd ht)
          have et : upd (upd H6 S (.lst [.str ("still" : Str), .str ("free" : Str)])) t (.tup [.str w', .int n1]) t = some (.tup (.str w' :: [n1].map V.int)) := upd_same
          generalize upd (upd H6 S (.lst [.str ("still" : Str), .str ("free" : Str)])) t (.tup [.str w', .int n1]) = H7 at S7 et ⊢
          refine ⟨F, ys, .ref t, rfl, rfl, S7 _ _ eF5, small (by omega), ?_⟩
          have ti7 := ((ti5.kt (.of_same S7)).snoc (g := (w', [n1])) ⟨t, rfl, et⟩ (tie_one hw s1)).kt (.put (o := .lst (ys ++ [.ref t])) (S7 _ _ eF5))
          refine ⟨ls.dropLast.length, by omega, _, _, _, ls.dropLast, _, _, rfl, rfl, ((D5.same S7).put nF.1 nF.2.1 nF.2.2).mono (by omega), fun b o e1 e2 e => ?_, by rw [upd_ne nLF]; exact S7 _ _ eL5, upd_same, ti7, by rw [List.length_append]; show ts.length + 1 + _ ≤ m; omega, sm4⟩
          rw [upd_ne (ne_of_none e hF0)]
          exact S7 _ _ (f05 _ _ e1 e2 e)
        · refine ⟨true, ?_, ?_⟩
          · cases hx : ls.dropLast with
            | nil => exact absurd hx hl0
            | cons a b => rfl
          -- a tie of two posts
          obtain ⟨n2, en2, mn2⟩ := last_of hl0
          have s2' := sm4 n2 mn2
          have lpos2 : 0 < ls.dropLast.length := List.length_pos_iff.mpr hl0
          have ll2 : ls.dropLast.dropLast.length = ls.dropLast.length - 1 := List.length_dropLast
          refine ⟨.ref L, rfl, .inl ⟨rfl, _, SqL.of eL6⟩, L, _, .int n2, rfl, rfl, eL6, en2, ?_⟩
          have eL7 : upd H6 L (.lst (ls.dropLast.map V.int).dropLast) L = some (.lst (ls.dropLast.dropLast.map V.int)) := by
            have e : (ls.dropLast.map V.int).dropLast = ls.dropLast.dropLast.map V.int := (List.map_dropLast (l := ls.dropLast)).symm
            rw [upd_same, e]
          have eF7 : upd H6 L (.lst (ls.dropLast.map V.int).dropLast) F = some (.lst ys) := by
            rw [upd_ne nLF.symm]
            exact s6 _ _ eF5
          have ti7 := (ti5.kt (.of_same s6)).kt (.put (o := .lst (ls.dropLast.map V.int).dropLast) eL6)
          have D7 := (D5.same s6).put (o := .lst (ls.dropLast.map V.int).dropLast) nL.1 nL.2.1 nL.2.2
          have f7 : Fr d g H (upd H6 L (.lst (ls.dropLast.map V.int).dropLast)) := fun b o e1 e2 e => by
            rw [upd_ne (ne_of_none e hL0)]
            exact s6 _ _ (f05 _ _ e1 e2 e)
          generalize upd H6 L (.lst (ls.dropLast.map V.int).dropLast) = H7 at eL7 eF7 ti7 D7 f7 ⊢
          refine ⟨.ref F, rfl, .inl ⟨rfl, _, SqL.of eF7⟩, .int n1, rfl, .int n2, rfl, n1, n2, rfl, .int n1, rfl, .int n2, rfl, n1, n2, rfl, (by show 3 ≤ sizeLine; decide), fun t ht => ?_⟩
          have sa : Sm13 (if n2 < n1 then n2 else n1) := by
            split
            · exact s2'
            · exact s1
          have sb : Sm13 (if n2 > n1 then n2 else n1) := by
            split
            · exact s2'
            · exact s1
          generalize (if n2 < n1 then n2 else n1) = na at sa ht ⊢
          generalize (if n2 > n1 then n2 else n1) = nb at sb ht ⊢
          have S8 : Same H7 (upd H7 t (.tup [.str ("join" : Str), .int na, .int nb])) := same_upd ht
          have et : upd H7 t (.tup [.str ("join" : Str), .int na, .int nb]) t = some (.tup (.str ("join" : Str) :: [na, nb].map V.int)) := upd_same
          generalize upd H7 t (.tup [.str ("join" : Str), .int na, .int nb]) = H8 at S8 et ⊢
          refine ⟨F, ys, .ref t, rfl, rfl, S8 _ _ eF7, small (by omega), ?_⟩
          have ti8 := ((ti7.kt (.of_same S8)).snoc (g := (("join" : Str), [na, nb])) ⟨t, rfl, et⟩ (tie_join sa sb)).kt (.put (o := .lst (ys ++ [.ref t])) (S8 _ _ eF7))
          refine ⟨ls.dropLast.dropLast.length, by omega, _, _, _, ls.dropLast.dropLast, _, _, rfl, rfl, ((D7.same S8).put nF.1 nF.2.1 nF.2.2).mono (by omega), fun b o e1 e2 e => ?_, by rw [upd_ne nLF]; exact S8 _ _ eL7, upd_same, ti8, by rw [List.length_append]; show ts.length + 1 + _ ≤ m; omega, fun n hn => sm4 n (List.dropLast_subset _ hn)⟩
          rw [upd_ne (ne_of_none e hF0)]
          exact S8 _ _ (f7 _ _ e1 e2 e)
      · refine ⟨.int ch, rfl, ch, 2, rfl, rfl, false, bl_f hc2, ?_⟩
        have s6 : Same H5 H5 := Same.refl _
        refine ⟨.ref F, rfl, .inl ⟨rfl, _, SqL.of (s6 _ _ eF5)⟩, (by show 2 ≤ sizeLine; decide), fun S hS => ?_⟩
        have wx : ∃ w : Str, atI [V.str ("still" : Str), V.str ("free" : Str)] (ch % 2) = some (.str w) ∧ (w = "still" ∨ w = "free") := by
          rcases (show ch % 2 = 0 ∨ ch % 2 = 1 by omega) with e | e
          · exact ⟨"still", by rw [e]; rfl, .inl rfl⟩
          · exact ⟨"free", by rw [e]; rfl, .inr rfl⟩
        obtain ⟨w', ew, hw⟩ := wx
        refine ⟨.int ch, rfl, ch, 2, rfl, rfl, (by show (0 : Int) < 2; decide), S, _, _, .str w', rfl, rfl, SqL.of upd_same, ew, .int n1, rfl, (by show 2 ≤ sizeLine; decide), fun t ht => ?_⟩
        have S7 : Same H5 (upd (upd H5 S (.lst [.str ("still" : Str), .str ("free" : Str)])) t (.tup [.str w', .int n1])) := (s6.trans (same_upd hS)).trans (same_upd ht)
        have et : upd (upd H5 S (.lst [.str ("still" : Str), .str ("free" : Str)])) t (.tup [.str w', .int n1]) t = some (.tup (.str w' :: [n1].map V.int)) := upd_same
        generalize upd (upd H5 S (.lst [.str ("still" : Str), .str ("free" : Str)])) t (.tup [.str w', .int n1]) = H7 at S7 et ⊢
        refine ⟨F, ys, .ref t, rfl, rfl, S7 _ _ eF5, small (by omega), ?_⟩
        have ti7 := ((ti5.kt (.of_same S7)).snoc (g := (w', [n1])) ⟨t, rfl, et⟩ (tie_one hw s1)).kt (.put (o := .lst (ys ++ [.ref t])) (S7 _ _ eF5))
        refine ⟨ls.dropLast.length, by omega, _, _, _, ls.dropLast, _, _, rfl, rfl, ((D5.same S7).put nF.1 nF.2.1 nF.2.2).mono (by omega), fun b o e1 e2 e => ?_, by rw [upd_ne nLF]; exact S7 _ _ eL5, upd_same, ti7, by rw [List.length_append]; show ts.length + 1 + _ ≤ m; omega, sm4⟩
        rw [upd_ne (ne_of_none e hF0)]
        exact S7 _ _ (f05 _ _ e1 e2 e)
/-! ### webs -/
def spWeb : Sp := fun vs H Q _ => ∃ (d g c : Addr) (k p : Int), vs = [.ref d, .int p] ∧ Dk d g c k H ∧ k ≤ 700000 ∧ 2 ≤ p ∧ p ≤ 13 ∧
  ∀ (x : V) (w : Web) (H' : Hp), WebAt H' x w → WebOk w → Dk d g c (k + 5000) H' → Fr d g H H' → Q x H'
set_option maxHeartbeats 2000000 in
theorem ok__law_web (T : Tx K mg A) : FnOk P w K mg base CX0 4 A.f__law_web A.d__law_web ["_law_deck_here", "_law_p"] spWeb := by
  have G__law_next : FnOk P w K mg base CX0 1 A.f__law_next A.d__law_next ["_law_deck_here", "_law_many"] spNext := ok__law_next T
  have G__law_gadget : FnOk P w K mg base CX0 3 A.f__law_gadget A.d__law_gadget ["_law_deck_here", "_law_p"] spGad := ok__law_gadget T
  have G__law_width : FnOk P w K mg base CX0 1 A.f__law_width A.d__law_width ["_law_gadget_here"] spWidth := ok__law_width T
  have G__law_ties : FnOk P w K mg base CX0 3 A.f__law_ties A.d__law_ties ["_law_deck_here", "_law_posts"] spTies := ok__law_ties T
  refine T.d__law_web.F.ok sc__law_web (fun vs H Q E h => ?_) (fun cdv A outer s H vs Q E hr h => ?_)
  · obtain ⟨d, g, c, k, p, rfl, _⟩ := h
    rfl
  · obtain ⟨d, g, c, k, p, rfl, D0, hk, p2, p13, q⟩ := h
    refine ⟨_, (pss_cons (ps_set (i := 2) sc__law_web.nd rfl (.inl rfl) (pe_lst pa_nil))
        (pss_cons (ps_set (i := 3) sc__law_web.nd rfl (.inl rfl) pe_int)
        (pss_cons (ps_for PassesOwn.never rfl (pi_range1 (by rfl) T.b_range (pa_cons (pe_call G__law_next (hr.mono (by decide)) (by rfl) T.d__law_next.g T.d__law_next.F.kp T.d__law_next.b .nil pass0 (pa_cons (pv 0) (pa_cons pe_int pa_nil))) pa_nil)) (pg_name (i := 4) sc__law_web.nd rfl (.inl rfl))
        (pss_cons (ps_set (i := 5) sc__law_web.nd rfl (.inl rfl) (pe_call G__law_gadget hr (by rfl) T.d__law_gadget.g T.d__law_gadget.F.kp T.d__law_gadget.b .nil pass0 (pa_cons (pv 0) (pa_cons (pv 1) pa_nil))))
        (pss_one (ps_if (pt_cmpR op_le (pe_op op_add (pv 3) (pe_call G__law_width (hr.mono (by decide)) (by rfl) T.d__law_width.g T.d__law_width.F.kp T.d__law_width.b .nil pass0 (pa_cons (pv 5) pa_nil))) pe_int (nomark _))
        (pss_cons (ps_expr (pe_bm PySem.F.plainAttrs_list PySem.F.slot_list_append PySem.F.type_list_append mt_append (pv 2) (pa_cons (pv 5) pa_nil)))
        (pss_one (ps_set (i := 3) sc__law_web.nd rfl (.inl rfl) (pe_op op_add (pv 3) (pe_call G__law_width (hr.mono (by decide)) (by rfl) T.d__law_width.g T.d__law_width.F.kp T.d__law_width.b .nil pass0 (pa_cons (pv 5) pa_nil))))))
        pss_nil))))
        (pss_one (ps_ret (pe_tup (pa_cons (pv 1) (pa_cons (pe_callTy call_tuple_of (by rfl) T.b_tuple PyProof.Rows.boot_tuple (pa_cons (pv 2) pa_nil)) (pa_cons (pe_call G__law_ties hr (by rfl) T.d__law_ties.g T.d__law_ties.F.kp T.d__law_ties.b .nil pass0 (pa_cons (pv 0) (pa_cons (pv 3) pa_nil))) pa_nil))))))))), ?_⟩
    refine ⟨Nat.zero_le _, fun F hF => ?_⟩
    have nF := D0.nd hF
    refine ⟨.ref d, rfl, d, g, c, k, 13, rfl, by decide, by decide, D0.same (same_upd hF), by omega, fun r H1 r0 r1 D1 f1 => ?_⟩
    have eF1 := f1 F _ nF.1 nF.2.1 upd_same
    refine ⟨r, rfl, by omega, by omega, for_range (fun i σ H' => ∃ v4 v5 pos xs gs, σ = [some (.ref d), some (.int p), some (.ref F), some (.int pos), v4, v5] ∧ Dk d g c (k + 1 + 300 * i) H' ∧ Fr d g H H' ∧ 0 ≤ pos ∧ pos ≤ 20 ∧ H' F = some (.lst xs) ∧ Gads H' xs gs ∧ gs.length ≤ i) ⟨_, _, 0, [], [], rfl, D1.mono (by omega), (Fr.new hF).trans f1, by decide, by decide, eF1, .nil, by simp⟩ ?_ ?_⟩
    · rintro i σ H2 hi ⟨v4, v5, pos, xs, gs, rfl, D2, f2, q0, q1, eF2, ga2, gl2⟩
      refine ⟨.ref d, rfl, .int p, rfl, d, g, c, _, p, rfl, D2, by omega, p2, p13, fun x gg H3 gx gok D3 f3 => ?_⟩
      have eF3 := f3 F _ nF.1 nF.2.1 eF2
      have ga3 := ga2.kt (.of_fr D2 f3)
      have xl := ga3.len
      have gw := gW_ok gok
      refine ⟨.int pos, rfl, x, rfl, x, gg, rfl, gx, gok, fun H4 s4 => ⟨pos, gW gg, rfl, rfl, _, 20, rfl, rfl, _, rfl, ite2 (fun e => ?_) (fun e => ?_)⟩⟩
      · have e20 := of_decide_eq_true e
        refine ⟨.ref F, rfl, .inl ⟨rfl, _, SqL.of (s4 _ _ eF3)⟩, x, rfl, F, xs, x, rfl, rfl, s4 _ _ eF3, small (by omega), ?_⟩
        have k5 : KT H4 (upd H4 F (.lst (xs ++ [x]))) := .put (s4 _ _ eF3)
        have gx5 := (gx.same s4).kt k5
        have ga5 := (((ga3.same s4).snoc (gx.same s4) gok)).kt k5
        have D5 := (D3.same s4).put (o := .lst (xs ++ [x])) nF.1 nF.2.1 nF.2.2
        have f5 : Fr d g H (upd H4 F (.lst (xs ++ [x]))) := fun b o e1 e2 e => by
          rw [upd_ne (ne_of_none e hF)]
          exact s4 _ _ (f3 _ _ e1 e2 (f2 _ _ e1 e2 e))
        have eF5 : upd H4 F (.lst (xs ++ [x])) F = some (.lst (xs ++ [x])) := upd_same
        generalize upd H4 F (.lst (xs ++ [x])) = H5 at gx5 ga5 D5 f5 eF5 ⊢
        refine ⟨.int pos, rfl, x, rfl, x, gg, rfl, gx5, gok, fun H6 s6 => ⟨pos, gW gg, rfl, rfl, ?_⟩⟩
        exact ⟨_, _, _, _, _, rfl, (D5.same s6).mono (by omega), f5.trans (.of_same s6), by have := gw.1; omega, e20, s6 _ _ eF5, ga5.same s6, by rw [List.length_append]; show gs.length + 1 ≤ i + 1; omega⟩
      · exact ⟨_, _, pos, xs, gs, rfl, (D3.same s4).mono (by omega), (f2.trans f3).trans (.of_same s4), q0, q1, s4 _ _ eF3, ga3.same s4, by omega⟩
    · rintro σ H2 ⟨v4, v5, pos, xs, gs, rfl, D2, f2, q0, q1, eF2, ga2, gl2⟩
      obtain ⟨m, rfl⟩ := Int.eq_ofNat_of_zero_le q0
      refine ⟨.int p, rfl, .ref F, rfl, F, xs, rfl, .inl ⟨SqL.of eF2, fun tg htg => ?_⟩⟩
      have D3 := D2.same (same_upd (o := .tup xs) htg)
      have etg : upd H2 tg (.tup xs) tg = some (.tup xs) := upd_same
      have ga3 := ga2.same (same_upd (o := .tup xs) htg)
      have f3 : Fr d g H (upd H2 tg (.tup xs)) := f2.trans (.new htg)
      generalize upd H2 tg (.tup xs) = H3 at D3 etg ga3 f3 ⊢
      refine ⟨.ref d, rfl, .int m, rfl, d, g, c, _, m, rfl, D3, by omega, by omega, fun tt ys ts H4 ett ti tl D4 f4 => ⟨(by show 3 ≤ sizeLine; decide), fun t ht => ?_⟩⟩
      have sT := same_upd (o := .tup [.int p, .ref tg, .ref tt]) ht
      exact q (.ref t) ⟨p, gs, ts⟩ _ ⟨t, tg, tt, xs, ys, rfl, upd_same, sT _ _ (f4.tup D3 etg), sT _ _ ett, (ga3.kt (.of_fr D3 f4)).same sT, ti.same sT⟩ ⟨sm13 (by show 0 ≤ p; omega) (by show p ≤ 30; omega), by show gs.length ≤ 20; omega, by show ts.length ≤ 40; omega⟩ ((D4.same sT).mono (by omega)) ((f3.trans f4).trans (.new ht))
/-! ### webs as things -/
def gadD : Gad → PyData
  | .num w n => .tuple [.str w, .int n]
  | .tab hs rs => .tuple [.str ("table" : Str), .tuple (hs.map .int), .tuple (rs.map fun r => .tuple (r.map .int))]
def tieD (t : Str × List Int) : PyData := .tuple (.str t.1 :: t.2.map .int)
def webD (w : Web) : PyData := .tuple [.int w.p, .tuple (w.gs.map gadD), .tuple (w.ts.map tieD)]
theorem dq_nums {H : Hp} : ∀ ns : List Int, DqAll H (ns.map V.int) (ns.map PyData.int)
  | [] => .nil
  | n :: ns => .cons (.int n) (dq_nums ns)
theorem dq_all {H : Hp} {α : Type} {R : V → α → Prop} {f : α → PyData} (h : ∀ x a, R x a → Dq H x (f a)) : ∀ {xs : List V} {as : List α}, xs.length = as.length → (∀ {i : Nat} {x : V}, xs[i]? = some x → ∃ a, as[i]? = some a ∧ R x a) → DqAll H xs (as.map f)
  | [], [], _, _ => .nil
  | [], _ :: _, e, _ => by simp at e
  | _ :: _, [], e, _ => by simp at e
  | x :: xs, a :: as, e, g => by
    obtain ⟨b, e1, r⟩ := g (i := 0) (x := x) rfl
    cases e1
    exact .cons (h _ _ r) (dq_all h (by simpa using e) fun {i y} ey => g (i := i + 1) ey)
theorem Trs.dq {H : Hp} {ys : List V} {rs : List (List Int)} (h : Trs H ys rs) : DqAll H ys (rs.map fun r => .tuple (r.map .int)) :=
  dq_all (R := fun y r => ∃ e, y = .ref e ∧ H e = some (.tup (r.map V.int))) (fun y r ⟨e, h1, h2⟩ => by subst h1; exact .tup h2 (dq_nums r)) h.len fun e => let ⟨a, r, h1, h2, h3⟩ := h.get e; ⟨r, h2, a, h1, h3⟩
theorem GadAt.dq {H : Hp} {x : V} {g : Gad} (h : GadAt H x g) : Dq H x (gadD g) := match g, h with
  | .num _ _, ⟨a, h1, h2⟩ => by subst h1; exact .tup h2 (.cons (.str _) (.cons (.int _) .nil))
  | .tab _ _, ⟨a, b, c, ys, h1, h2, h3, h4, h5⟩ => by subst h1; exact .tup h2 (.cons (.str _) (.cons (.tup h3 (dq_nums _)) (.cons (.tup h4 h5.dq) .nil)))
theorem WebAt.dq {H : Hp} {x : V} {w : Web} (h : WebAt H x w) : Dq H x (webD w) := by
  obtain ⟨a, b, c, xs, ys, rfl, h2, h3, h4, h5, h6⟩ := h
  refine .tup h2 (.cons (.int _) (.cons (.tup h3 (dq_all (R := fun x g => GadAt H x g) (fun _ _ r => r.dq) h5.len h5.get)) (.cons (.tup h4 (dq_all (R := fun x t => TieAt H x t) (fun y t ⟨e, h1, h2⟩ => ?_) h6.len h6.get)) .nil)))
  subst h1
  exact .tup h2 (.cons (.str _) (dq_nums _))
theorem gd_sm {n : Int} (h : Sm13 n) : Gd 6 0 (.int n) := Gd.int (k := 5) (by decide) (by decide) (by unfold Sm13 at h; omega)
theorem gd_sms : ∀ {ns : List Int}, (∀ n ∈ ns, Sm13 n) → GdAll (7 * ns.length) 0 (ns.map PyData.int)
  | [], _ => .nil
  | n :: ns, h => (GdAll.cons (gd_sm (h n (by simp))) (gd_sms fun x hx => h x (List.mem_cons_of_mem _ hx))).mono (by rw [List.length_cons]; omega) (Nat.le_refl _)
theorem gd_str {z : Str} (h1 : PyData.leavesShort 120 (.str z) = true) (h2 : z.cps.size ≤ 10) : Gd 10 0 (.str z) := ⟨by simp [PyData.showable], h1, by simpa [PyData.weight] using h2, by simp [PyData.depth]⟩
theorem gd_trows : ∀ {rs : List (List Int)}, (∀ r ∈ rs, r.length ≤ 10 ∧ ∀ n ∈ r, Sm13 n) → GdAll (71 * rs.length) 1 (rs.map fun r => .tuple (r.map .int))
  | [], _ => .nil
  | r :: rs, h => by
    obtain ⟨h1, h2⟩ := h r (by simp)
    exact (GdAll.cons ((Gd.tup (gd_sms h2)).mono (by omega : _ ≤ 70) (Nat.le_refl _)) (gd_trows fun x hx => h x (List.mem_cons_of_mem _ hx))).mono (by rw [List.length_cons]; omega) (Nat.le_refl _)
theorem gd_gad {g : Gad} (h : GadOk g) : Gd 1000 3 (gadD g) := by
  cases g with
  | num w n =>
    obtain ⟨hw, hn⟩ := h
    have hs : Gd 10 0 (.str w) := by
      rcases hw with rfl | rfl | rfl | rfl
      · exact gd_str (by decide +kernel) (by decide +kernel)
      · exact gd_str (by decide +kernel) (by decide +kernel)
      · exact gd_str (by decide +kernel) (by decide +kernel)
      · exact gd_str (by decide +kernel) (by decide +kernel)
    exact (Gd.tup (GdAll.cons hs (GdAll.cons (gd_sm hn) (GdAll.nil (n := 0))))).mono (by omega) (by omega)
  | tab hs rs =>
    obtain ⟨h1, h2, h3, h4⟩ := h
    have a := (Gd.tup (gd_sms h3)).mono (n' := 70) (m' := 2) (by omega) (by omega)
    have b := (Gd.tup (gd_trows h4)).mono (n' := 710) (m' := 2) (by omega) (by omega)
    have c : Gd 10 2 (.str ("table" : Str)) := (gd_str (by decide +kernel) (by decide +kernel)).mono (Nat.le_refl _) (by omega)
    exact (Gd.tup (GdAll.cons c (GdAll.cons a (GdAll.cons b (GdAll.nil (n := 0)))))).mono (by omega) (Nat.le_refl _)
theorem gd_tie {t : Str × List Int} (h : TieOk t) : Gd 30 1 (tieD t) := by
  obtain ⟨_, h1, h2, h3, h4⟩ := h
  exact (Gd.tup (GdAll.cons (gd_str h1 h2) (gd_sms h4))).mono (by omega) (Nat.le_refl _)
theorem gd_map {α : Type} {f : α → PyData} {n m : Nat} : ∀ {as : List α}, (∀ a ∈ as, Gd n m (f a)) → GdAll ((n + 1) * as.length) m (as.map f)
  | [], _ => .nil
  | a :: as, h => (GdAll.cons (h a (by simp)) (gd_map fun x hx => h x (List.mem_cons_of_mem _ hx))).mono (by rw [List.length_cons, Nat.mul_succ]; omega) (Nat.le_refl _)
theorem gd_web {w : Web} (h : WebOk w) (hg : ∀ g ∈ w.gs, GadOk g) (ht : ∀ t ∈ w.ts, TieOk t) : Gd 30000 5 (webD w) := by
  obtain ⟨h1, h2, h3⟩ := h
  have a := (Gd.tup (gd_map (f := gadD) fun g hg' => gd_gad (hg g hg'))).mono (n' := 21000) (m' := 4) (by omega) (by omega)
  have b := (Gd.tup (gd_map (f := tieD) fun t ht' => gd_tie (ht t ht'))).mono (n' := 2000) (m' := 4) (by omega) (by omega)
  exact (Gd.tup (GdAll.cons ((gd_sm h1).mono (Nat.le_refl _) (by omega)) (GdAll.cons a (GdAll.cons b (GdAll.nil (n := 0)))))).mono (by omega) (Nat.le_refl _)
theorem gads_rep {H : Hp} {x : V} {g : Gad} (h : GadAt H x g) (o : GadOk g) : ∀ n : Nat, Gads H (List.replicate n x) (List.replicate n g)
  | 0 => .nil
  | n + 1 => by
    rw [List.replicate_succ', List.replicate_succ']
    exact (gads_rep h o n).snoc h o
/-! ### the law -/
def Wbs (H : Hp) (xs : List V) : Prop := ∀ x ∈ xs, ∃ w, WebAt H x w ∧ WebOk w
theorem Wbs.kt {H H' : Hp} {xs : List V} (h : Wbs H xs) (s : KT H H') : Wbs H' xs := fun x hx => let ⟨w, h1, h2⟩ := h x hx; ⟨w, h1.kt s, h2⟩
set_option maxHeartbeats 4000000 in
theorem ok_law (T : Tx K mg A) : LawOk P w K mg A.f_law := by
  refine law_at (k := 4) T.d_law sc_law ⟨rfl, by decide, by decide⟩ fun base t H a ns cdv hlen hm hS hr => ?_
  have G__law_deck : FnOk P w K mg base CX0 1 A.f__law_deck A.d__law_deck ["_law_script"] (spDeck K) := ok__law_deck T
  have G__law_prime : FnOk P w K mg base CX0 2 A.f__law_prime A.d__law_prime ["_law_deck_here"] spPrm := ok__law_prime T
  have G__law_hold : FnOk P w K mg base CX0 2 A.f__law_hold A.d__law_hold ["_law_deck_here", "_law_posts"] spHold := ok__law_hold T
  have G__law_table : FnOk P w K mg base CX0 2 A.f__law_table A.d__law_table ["_law_deck_here", "_law_p", "_law_posts"] spTab := ok__law_table T
  have G__law_web : FnOk P w K mg base CX0 4 A.f__law_web A.d__law_web ["_law_deck_here", "_law_p"] spWeb := ok__law_web T
  have G_web_text : FnOk P w K mg base CX0 3 A.f_web_text A.d_web_text ["web"] spWText := ok_web_text T
  have G__law_text : FnOk P w K mg base CX0 2 A.f__law_text A.d__law_text ["_law_web_here"] spWText := ok__law_text T
  have G_gadget_text : FnOk P w K mg base CX0 2 A.f_gadget_text A.d_gadget_text ["gadget"] spGText := ok_gadget_text T
  have G__law_gadget_text : FnOk P w K mg base CX0 1 A.f__law_gadget_text A.d__law_gadget_text ["_law_gadget_here"] spGText := ok__law_gadget_text T
  refine ⟨_, (pss_cons (ps_set (i := 1) sc_law.nd rfl (.inl rfl) (pe_call G__law_deck (hr.mono (by decide)) (by rfl) T.d__law_deck.g T.d__law_deck.F.kp T.d__law_deck.b .nil pass0 (pa_cons (pv 0) pa_nil)))
        (pss_cons (ps_set (i := 2) sc_law.nd rfl (.inl rfl) (pe_call G__law_prime (hr.mono (by decide)) (by rfl) T.d__law_prime.g T.d__law_prime.F.kp T.d__law_prime.b .nil pass0 (pa_cons (pv 1) pa_nil)))
        (pss_cons (ps_set (i := 3) sc_law.nd rfl (.inl rfl) (pe_tup (pa_cons pe_str (pa_cons (pe_call G__law_hold (hr.mono (by decide)) (by rfl) T.d__law_hold.g T.d__law_hold.F.kp T.d__law_hold.b .nil pass0 (pa_cons (pv 1) (pa_cons pe_int pa_nil))) (pa_cons (pe_call G__law_table (hr.mono (by decide)) (by rfl) T.d__law_table.g T.d__law_table.F.kp T.d__law_table.b .nil pass0 (pa_cons (pv 1) (pa_cons (pv 2) (pa_cons pe_int pa_nil)))) pa_nil)))))
        (pss_cons (ps_set (i := 4) sc_law.nd rfl (.inl rfl) (pe_lst (pa_cons (pe_call G__law_web hr (by rfl) T.d__law_web.g T.d__law_web.F.kp T.d__law_web.b .nil pass0 (pa_cons (pv 1) (pa_cons (pv 2) pa_nil))) (pa_cons (pe_call G__law_web hr (by rfl) T.d__law_web.g T.d__law_web.F.kp T.d__law_web.b .nil pass0 (pa_cons (pv 1) (pa_cons (pv 2) pa_nil))) (pa_cons (pe_tup (pa_cons (pv 2) (pa_cons (pe_tup pa_nil) (pa_cons (pe_tup pa_nil) pa_nil)))) pa_nil)))))
        (pss_cons (ps_expr (pe_bm PySem.F.plainAttrs_list PySem.F.slot_list_append PySem.F.type_list_append mt_append (pv 4) (pa_cons (pe_tup (pa_cons (pv 2) (pa_cons (pe_op Gx.op_repA (pe_tup (pa_cons (pe_tup (pa_cons pe_str (pa_cons (pe_op op_sub (pv 2) pe_int) pa_nil))) pa_nil)) pe_int) (pa_cons (pe_tup (pa_cons (pe_tup (pa_cons pe_str (pa_cons pe_int pa_nil))) (pa_cons (pe_tup (pa_cons pe_str (pa_cons pe_int pa_nil))) pa_nil))) pa_nil)))) pa_nil)))
        (pss_cons (ps_expr (pe_bm PySem.F.plainAttrs_list PySem.F.slot_list_append PySem.F.type_list_append mt_append (pv 4) (pa_cons (pe_tup (pa_cons (pv 2) (pa_cons (pe_tup (pa_cons (pv 3) (pa_cons (pe_tup (pa_cons pe_str (pa_cons pe_int pa_nil))) pa_nil))) (pa_cons (pe_callTy call_tuple_of (by rfl) T.b_tuple PyProof.Rows.boot_tuple (pa_cons (pe_lc (own := [("_law_k", 8)]) rfl sc_law.nd (pi_range1 (by rfl) T.b_range (pa_cons pe_int pa_nil)) (blkOk_by (N := N_law) (sc := defScope s_law) (by decide +kernel)) (fun _ _ _ _ _ => (pg_name (i := 8) sc_law.nd rfl (.inl rfl))) (fun _ _ _ _ _ => pts_nil) (fun _ _ _ _ _ => (pe_tup (pa_cons pe_str (pa_cons (pv 8) (pa_cons (pe_op op_add (pv 8) pe_int) pa_nil)))))) pa_nil)) pa_nil)))) pa_nil)))
        (pss_cons (ps_for PassesOwn.never rfl (pi_list (pe_op op_cat (pv 4) (pe_slice sl_list (pv 4) po_none (po_some pe_int)))) (pg_name (i := 5) sc_law.nd rfl (.inl rfl))
        (pss_cons (ps_set (i := 6) sc_law.nd rfl (.inl rfl) (pe_callB (call_reprQ hm rfl (ru80 hr)) (by rfl) T.b_repr PyProof.Rows.boot_repr (pa_cons (pv 5) pa_nil)))
        (pss_cons (ps_if (PW.pt (pw_or (pt_cmpR op_ne (pe_call G_web_text (hr.mono (by decide)) (by rfl) T.d_web_text.g T.d_web_text.F.kp T.d_web_text.b .nil pass0 (pa_cons (pv 5) pa_nil)) (pe_call G__law_text (hr.mono (by decide)) (by rfl) T.d__law_text.g T.d__law_text.F.kp T.d__law_text.b .nil pass0 (pa_cons (pv 5) pa_nil)) (nomark _)) (pw_or1 (pt_cmpR op_ne (pe_callB (call_reprQ hm rfl (ru80 hr)) (by rfl) T.b_repr PyProof.Rows.boot_repr (pa_cons (pv 5) pa_nil)) (pv 6) (nomark _)))))
        (pss_one (ps_ret pe_bl))
        pss_nil)
        (pss_one (ps_for PassesOwn.never rfl (pi_tup (pe_ix ix_tup (pv 5) pe_int (fun _ _ => rfl))) (pg_name (i := 7) sc_law.nd rfl (.inl rfl))
        (pss_one (ps_if (pt_cmpR op_ne (pe_call G_gadget_text (hr.mono (by decide)) (by rfl) T.d_gadget_text.g T.d_gadget_text.F.kp T.d_gadget_text.b .nil pass0 (pa_cons (pv 7) pa_nil)) (pe_call G__law_gadget_text (hr.mono (by decide)) (by rfl) T.d__law_gadget_text.g T.d__law_gadget_text.F.kp T.d__law_gadget_text.b .nil pass0 (pa_cons (pv 7) pa_nil)) (nomark _))
        (pss_one (ps_ret pe_bl))
        pss_nil)))))))
        (pss_one (ps_ret pe_bl))))))))), ?_⟩
  refine ⟨.ref a, rfl, a, ns, rfl, hS, hlen, fun d g c H0 s0 nd ng nc D0 => ?_⟩
  refine ⟨.ref d, rfl, d, g, c, _, rfl, D0, by omega, fun p H1 hp D1 f1 => ?_⟩
  obtain ⟨p2, p13⟩ := prs_bd p hp
  -- a great table
  refine ⟨.ref d, rfl, d, g, c, _, 10, rfl, D1, by omega, by decide, fun th hs H2 hsm hsl eh D2 f2 => ?_⟩
  refine ⟨.ref d, rfl, .int p, rfl, d, g, c, _, p, 10, rfl, D2, by omega, p2, p13, by decide, fun tt ys rs H3 e3 tr rl rok D3 f3 => ⟨(by show 3 ≤ sizeLine; decide), fun gr hgr => ?_⟩⟩
  have gat : GadAt (upd H3 gr (.tup [.str ("table" : Str), .ref th, .ref tt])) (.ref gr) (.tab hs rs) := ⟨gr, th, tt, ys, rfl, upd_same, same_upd hgr _ _ (f3.tup D2 eh), same_upd hgr _ _ e3, tr.same (same_upd hgr)⟩
  have gok : GadOk (.tab hs rs) := ⟨by omega, by omega, hsm, rok⟩
  have D4 := D3.same (same_upd (o := .tup [.str ("table" : Str), .ref th, .ref tt]) hgr)
  generalize upd H3 gr (.tup [.str ("table" : Str), .ref th, .ref tt]) = H4 at gat D4 ⊢
  -- the webs
  refine ⟨.ref d, rfl, .int p, rfl, d, g, c, _, p, rfl, D4, by omega, p2, p13, fun x1 w1 H5 wa1 wo1 D5 f5 => ?_⟩
  refine ⟨.ref d, rfl, .int p, rfl, d, g, c, _, p, rfl, D5, by omega, p2, p13, fun x2 w2 H6 wa2 wo2 D6 f6 => ?_⟩
  have k46 : KT H4 H6 := (KT.of_fr D4 f5).trans (.of_fr D5 f6)
  have gat6 := gat.kt k46
  have wa16 := wa1.kt (.of_fr D5 f6)
  refine ⟨.int p, rfl, Nat.zero_le _, fun e1 he1 => ⟨Nat.zero_le _, fun e2 he2 => ⟨(by show 3 ≤ sizeLine; decide), fun t3 ht3 => ?_⟩⟩⟩
  have smp : Sm13 p := sm13 (by omega) (by omega)
  have S7 : Same H6 (upd (upd (upd H6 e1 (.tup [])) e2 (.tup [])) t3 (.tup [.int p, .ref e1, .ref e2])) := ((same_upd he1).trans (same_upd he2)).trans (same_upd ht3)
  have wa3 : WebAt (upd (upd (upd H6 e1 (.tup [])) e2 (.tup [])) t3 (.tup [.int p, .ref e1, .ref e2])) (.ref t3) ⟨p, [], []⟩ := ⟨t3, e1, e2, [], [], rfl, upd_same, same_upd ht3 _ _ (same_upd he2 _ _ upd_same), same_upd ht3 _ _ upd_same, .nil, .nil⟩
  generalize upd (upd (upd H6 e1 (.tup [])) e2 (.tup [])) t3 (.tup [.int p, .ref e1, .ref e2]) = H7 at S7 wa3 ⊢
  refine ⟨(by show 3 ≤ sizeLine; decide), fun W hW => ?_⟩
  have sW := same_upd (o := .lst [x1, x2, .ref t3]) hW
  have eW : upd H7 W (.lst [x1, x2, .ref t3]) W = some (.lst [x1, x2, .ref t3]) := upd_same
  have all8 : Wbs (upd H7 W (.lst [x1, x2, .ref t3])) [x1, x2, .ref t3] := fun x hx => by
    simp only [List.mem_cons, List.not_mem_nil, or_false] at hx
    rcases hx with rfl | rfl | rfl
    · exact ⟨w1, (wa16.same S7).same sW, wo1⟩
    · exact ⟨w2, (wa2.same S7).same sW, wo2⟩
    · exact ⟨_, wa3.same sW, smp, by show 0 ≤ 20; decide, by show 0 ≤ 40; decide⟩
  have gat8 := (gat6.same S7).same sW
  generalize upd H7 W (.lst [x1, x2, .ref t3]) = H8 at sW eW all8 gat8 ⊢
  -- twelve springs
  refine ⟨.ref W, rfl, .inl ⟨rfl, _, SqL.of eW⟩, .int p, rfl, .int p, rfl, p, 1, rfl, rfl, (by show 2 ≤ sizeLine; decide), fun u1 hu1 => ⟨(by show 1 ≤ sizeLine; decide), fun u2 hu2 => ?_⟩⟩
  have eu2 : upd (upd H8 u1 (.tup [.str ("spring" : Str), .int (p - 1)])) u2 (.tup [.ref u1]) u2 = some (.tup [.ref u1]) := upd_same
  have S9 : Same H8 (upd (upd H8 u1 (.tup [.str ("spring" : Str), .int (p - 1)])) u2 (.tup [.ref u1])) := (same_upd hu1).trans (same_upd hu2)
  have gs9 : GadAt (upd (upd H8 u1 (.tup [.str ("spring" : Str), .int (p - 1)])) u2 (.tup [.ref u1])) (.ref u1) (.num "spring" (p - 1)) := ⟨u1, rfl, same_upd hu2 _ _ upd_same⟩
  have go9 : GadOk (.num "spring" (p - 1)) := ⟨.inl rfl, sm13 (by omega) (by omega)⟩
  generalize upd (upd H8 u1 (.tup [.str ("spring" : Str), .int (p - 1)])) u2 (.tup [.ref u1]) = H9 at eu2 S9 gs9 ⊢
  refine ⟨u2, 12, _, rfl, rfl, SqT.of eu2, by simp, by decide, by decide, (by show 1 ≤ 1000; decide), fun z => absurd z (by decide), fun _ u3 hu3 => ?_⟩
  have er : (List.replicate (12 : Int).toNat [V.ref u1]).flatten = List.replicate 12 (V.ref u1) := rfl
  rw [er]
  have eu3 : upd H9 u3 (.tup (List.replicate 12 (V.ref u1))) u3 = some (.tup (List.replicate 12 (V.ref u1))) := upd_same
  have S10 : Same H8 (upd H9 u3 (.tup (List.replicate 12 (V.ref u1)))) := S9.trans (same_upd hu3)
  have ga10 := (gads_rep gs9 go9 12).same (same_upd (o := .tup (List.replicate 12 (V.ref u1))) hu3)
  generalize upd H9 u3 (.tup (List.replicate 12 (V.ref u1))) = H10 at eu3 S10 ga10 ⊢
  refine ⟨(by show 2 ≤ sizeLine; decide), fun b1 hb1 => ⟨(by show 2 ≤ sizeLine; decide), fun b2 hb2 => ⟨(by show 2 ≤ sizeLine; decide), fun b3 hb3 => ⟨(by show 3 ≤ sizeLine; decide), fun t4 ht4 => ?_⟩⟩⟩⟩
  have S11a := same_upd (o := .tup [.str ("free" : Str), .int 3]) hb1
  have S11b := same_upd (o := .tup [.str ("still" : Str), .int 0]) hb2
  have S11c := same_upd (o := .tup [.ref b1, .ref b2]) hb3
  have S11d := same_upd (o := .tup [.int p, .ref u3, .ref b3]) ht4
  have S11 := ((S11a.trans S11b).trans S11c).trans S11d
  have ti11 : Ties _ [.ref b1, .ref b2] [(("free" : Str), [3]), (("still" : Str), [0])] := (Ties.snoc (xs := [.ref b1]) (gs := [(("free" : Str), [3])]) (Ties.snoc (xs := []) (gs := []) .nil ⟨b1, rfl, (S11b.trans S11c).trans S11d _ _ upd_same⟩ (tie_one (.inr rfl) (sm13 (by decide) (by decide)))) ⟨b2, rfl, S11c.trans S11d _ _ upd_same⟩ (tie_one (.inl rfl) (sm13 (by decide) (by decide))))
  have wa4 : WebAt _ (.ref t4) ⟨p, List.replicate 12 (.num "spring" (p - 1)), [(("free" : Str), [3]), (("still" : Str), [0])]⟩ := ⟨t4, u3, b3, _, _, rfl, upd_same, S11 _ _ eu3, S11d _ _ upd_same, ga10.same S11, ti11⟩
  generalize upd (upd (upd (upd H10 b1 (.tup [.str ("free" : Str), .int 3])) b2 (.tup [.str ("still" : Str), .int 0])) b3 (.tup [.ref b1, .ref b2])) t4 (.tup [.int p, .ref u3, .ref b3]) = H11 at S11 wa4 ⊢
  have S811 := S10.trans S11
  refine ⟨W, [x1, x2, .ref t3], .ref t4, rfl, rfl, S811 _ _ eW, small (by show 3 ≤ 1000; decide), ?_⟩
  have k12 : KT H11 (upd H11 W (.lst ([x1, x2, .ref t3] ++ [.ref t4]))) := .put (S811 _ _ eW)
  have all12 : Wbs (upd H11 W (.lst ([x1, x2, .ref t3] ++ [.ref t4]))) ([x1, x2, .ref t3] ++ [.ref t4]) := fun x hx => by
    rcases List.mem_append.mp hx with hx | hx
    · exact ((all8.kt (.of_same S811)).kt k12) x hx
    · rw [List.mem_singleton.mp hx]
      exact ⟨_, wa4.kt k12, smp, by show 12 ≤ 20; decide, by show 2 ≤ 40; decide⟩
  have gat12 := (gat8.same S811).kt k12
  have eW12 : upd H11 W (.lst ([x1, x2, .ref t3] ++ [.ref t4])) W = some (.lst ([x1, x2, .ref t3] ++ [.ref t4])) := upd_same
  generalize upd H11 W (.lst ([x1, x2, .ref t3] ++ [.ref t4])) = H12 at all12 gat12 eW12 ⊢
  have l4 : ([x1, x2, .ref t3] ++ [V.ref t4]).length = 4 := rfl
  generalize [x1, x2, .ref t3] ++ [V.ref t4] = xs4 at all12 eW12 l4 ⊢
  -- the great table and a ring
  refine ⟨.ref W, rfl, .inl ⟨rfl, _, SqL.of eW12⟩, .int p, rfl, .ref gr, rfl, (by show 2 ≤ sizeLine; decide), fun r1 hr1 => ⟨(by show 2 ≤ sizeLine; decide), fun r2 hr2 => ?_⟩⟩
  have S13 : Same H12 (upd (upd H12 r1 (.tup [.str ("ring" : Str), .int 10])) r2 (.tup [.ref gr, .ref r1])) := (same_upd hr1).trans (same_upd hr2)
  have er2 : upd (upd H12 r1 (.tup [.str ("ring" : Str), .int 10])) r2 (.tup [.ref gr, .ref r1]) r2 = some (.tup [.ref gr, .ref r1]) := upd_same
  have gr1 : GadAt (upd (upd H12 r1 (.tup [.str ("ring" : Str), .int 10])) r2 (.tup [.ref gr, .ref r1])) (.ref r1) (.num "ring" 10) := ⟨r1, rfl, same_upd hr2 _ _ upd_same⟩
  have ga13 : Gads (upd (upd H12 r1 (.tup [.str ("ring" : Str), .int 10])) r2 (.tup [.ref gr, .ref r1])) [.ref gr, .ref r1] [.tab hs rs, .num "ring" 10] := Gads.snoc (xs := [.ref gr]) (gs := [.tab hs rs]) (Gads.snoc (xs := []) (gs := []) .nil (gat12.same S13) gok) gr1 ⟨.inr (.inr (.inr rfl)), sm13 (by decide) (by decide)⟩
  generalize upd (upd H12 r1 (.tup [.str ("ring" : Str), .int 10])) r2 (.tup [.ref gr, .ref r1]) = H13 at S13 er2 ga13 ⊢
  refine ⟨10, rfl, by decide, by decide, fun D hD => lc_range (n := 10) (fun i H' => Same H13 H' ∧ ∃ zs ts, H' D = some (.lst zs) ∧ Ties H' zs ts ∧ ts.length = i) ⟨same_upd hD, [], [], upd_same, .nil, rfl⟩ ?_ ?_⟩
  · rintro i H14 hi ⟨s14, zs, ts, eD, ti, tl⟩
    have zl := ti.len
    refine ⟨rfl, .int (0 + (i : Nat)), rfl, .int (0 + (i : Nat)), rfl, _, 10, rfl, rfl, (by show 3 ≤ sizeLine; decide), fun t5 ht5 => ?_⟩
    have S15 := same_upd (o := .tup [.str ("join" : Str), .int (0 + (i : Nat)), .int (0 + (i : Nat) + 10)]) ht5
    have ti15 := (ti.same S15).snoc (x := .ref t5) (g := (("join" : Str), [0 + (i : Nat), 0 + (i : Nat) + 10])) ⟨t5, rfl, upd_same⟩ (tie_join (sm13 (by omega) (by omega)) (sm13 (by omega) (by omega)))
    exact ⟨zs, S15 _ _ eD, small (by omega), same_put (s14.trans S15) hD, _, _, upd_same, ti15.kt (.put (S15 _ _ eD)), by rw [List.length_append, tl]; rfl⟩
  · rintro H14 ⟨s14, zs, ts, eD, ti, tl⟩
    refine ⟨D, _, rfl, .inl ⟨SqL.of eD, fun b4 hb4 => ⟨(by show 3 ≤ sizeLine; decide), fun t6 ht6 => ?_⟩⟩⟩
    have S15a := same_upd (o := .tup zs) hb4
    have S15b := same_upd (o := .tup [.int p, .ref r2, .ref b4]) ht6
    have S15 : Same H13 (upd (upd H14 b4 (.tup zs)) t6 (.tup [.int p, .ref r2, .ref b4])) := (s14.trans S15a).trans S15b
    have wa5 : WebAt (upd (upd H14 b4 (.tup zs)) t6 (.tup [.int p, .ref r2, .ref b4])) (.ref t6) ⟨p, [.tab hs rs, .num "ring" 10], ts⟩ := ⟨t6, r2, b4, _, _, rfl, upd_same, S15 _ _ er2, S15b _ _ upd_same, ga13.same S15, (ti.same S15a).same S15b⟩
    generalize upd (upd H14 b4 (.tup zs)) t6 (.tup [.int p, .ref r2, .ref b4]) = H15 at S15 wa5 ⊢
    have S1215 := S13.trans S15
    refine ⟨W, xs4, .ref t6, rfl, rfl, S1215 _ _ eW12, small (by omega), ?_⟩
    have k16 : KT H15 (upd H15 W (.lst (xs4 ++ [.ref t6]))) := .put (S1215 _ _ eW12)
    have all16 : Wbs (upd H15 W (.lst (xs4 ++ [.ref t6]))) (xs4 ++ [.ref t6]) := fun x hx => by
      rcases List.mem_append.mp hx with hx | hx
      · exact ((all12.kt (.of_same S1215)).kt k16) x hx
      · rw [List.mem_singleton.mp hx]
        exact ⟨_, wa5.kt k16, smp, by show 2 ≤ 20; decide, by show ts.length ≤ 40; omega⟩
    have eW16 : upd H15 W (.lst (xs4 ++ [.ref t6])) W = some (.lst (xs4 ++ [.ref t6])) := upd_same
    have l5 : (xs4 ++ [V.ref t6]).length = 5 := by rw [List.length_append, l4]; rfl
    generalize upd H15 W (.lst (xs4 ++ [.ref t6])) = H16 at all16 eW16 ⊢
    generalize xs4 ++ [V.ref t6] = xs5 at all16 eW16 l5 ⊢
    -- each of them, and the first again
    refine ⟨.ref W, rfl, .ref W, rfl, 1, rfl, W, xs5, rfl, SqL.of eW16, fun s1 hs1 => ?_⟩
    have ec : cutV xs5 none (some (1 : Int)) = xs5.take 1 := cut_to (k := 1)
    rw [ec]
    refine ⟨W, s1, xs5, xs5.take 1, rfl, rfl, same_upd hs1 _ _ eW16, upd_same, ?_, fun Z hZ => ?_⟩
    · rw [List.length_take]
      exact Nat.le_of_lt (small (by omega))
    have S17 : Same H16 (upd (upd H16 s1 (.lst (xs5.take 1))) Z (.lst (xs5 ++ xs5.take 1))) := (same_upd hs1).trans (same_upd hZ)
    have eZ : upd (upd H16 s1 (.lst (xs5.take 1))) Z (.lst (xs5 ++ xs5.take 1)) Z = some (.lst (xs5 ++ xs5.take 1)) := upd_same
    have all17 : Wbs (upd (upd H16 s1 (.lst (xs5.take 1))) Z (.lst (xs5 ++ xs5.take 1))) (xs5 ++ xs5.take 1) := fun x hx => by
      rcases List.mem_append.mp hx with hx | hx
      · exact (all16.kt (.of_same S17)) x hx
      · exact (all16.kt (.of_same S17)) x (List.mem_of_mem_take hx)
    generalize upd (upd H16 s1 (.lst (xs5.take 1))) Z (.lst (xs5 ++ xs5.take 1)) = H17 at eZ all17 ⊢
    generalize xs5 ++ xs5.take 1 = zs6 at eZ all17 ⊢
    refine ⟨Z, rfl, ⟨_, SqL.of eZ⟩, for_it (walk_list (xs := zs6)) (fun _ σ H' => ∃ v5 v6 v7 v8, σ = [some (.ref a), some (.ref d), some (.int p), some (.ref gr), some (.ref W), v5, v6, v7, v8] ∧ Same H17 H') ⟨_, _, _, _, rfl, Same.refl _⟩ (fun _ σ H' _ h => by obtain ⟨_, _, _, _, _, s⟩ := h; exact SqL.of (s _ _ eZ)) ?_ ?_⟩
    · rintro i x σ H18 H19 hi ⟨v5, v6, v7, v8, rfl, s18⟩ ⟨rfl, hx⟩
      obtain ⟨wb, wat, wok⟩ := all17 x (List.mem_of_getElem? hx)
      have wat1 := wat.same s18
      have oks : (∀ g ∈ wb.gs, GadOk g) ∧ ∀ t ∈ wb.ts, TieOk t := by
        obtain ⟨_, _, _, _, _, _, _, _, _, h5, h6⟩ := wat
        exact ⟨h5.ok, h6.ok⟩
      have gw := gd_web wok oks.1 oks.2
      refine ⟨x, rfl, x, _, rfl, wat1.dq, gw.1, Nat.le_trans gw.2.2.2 (by decide), gw.shown (by decide), ?_⟩
      refine ⟨x, rfl, x, wb, rfl, wat1, wok, fun H20 s20 => ?_⟩
      have wat2 := wat1.same s20
      refine ⟨x, rfl, x, wb, rfl, wat2, wok, fun H21 s21 => ⟨rfl, false, nb_f rfl, ?_⟩⟩
      have wat3 := wat2.same s21
      refine ⟨x, rfl, x, _, rfl, wat3.dq, gw.1, Nat.le_trans gw.2.2.2 (by decide), gw.shown (by decide), .str _, rfl, rfl, false, nb_f rfl, ?_⟩
      -- each of its gadgets
      obtain ⟨wa, wb', wc, wxs, wys, rfl, e1, e2, e3, wg, wt⟩ := wat3
      refine ⟨.ref wa, rfl, wa, _, 1, .ref wb', rfl, rfl, SqT.of e1, atI_nat (j := 1) rfl, wb', rfl, ⟨_, SqT.of e2⟩, for_it (walk_tup (xs := wxs)) (fun _ σ H' => ∃ v7, σ = [some (.ref a), some (.ref d), some (.int p), some (.ref gr), some (.ref W), some (.ref wa), some (.str (webD wb).shown), v7, v8] ∧ Same H21 H') ⟨_, rfl, Same.refl _⟩ (fun _ σ H' _ h => by obtain ⟨_, _, s⟩ := h; exact SqT.of (s _ _ e2)) ?_ ?_⟩
      · rintro j y σ H22 H23 hj ⟨v7, rfl, s22⟩ ⟨rfl, hy⟩
        obtain ⟨gg, eg, gat'⟩ := (wg.same s22).get hy
        have gok' := wg.ok gg (List.mem_of_getElem? eg)
        refine ⟨y, rfl, y, gg, rfl, gat', gok', fun H24 s24 => ⟨y, rfl, y, gg, rfl, gat'.same s24, gok', fun H25 s25 => ⟨rfl, false, nb_f rfl, ?_⟩⟩⟩
        exact ⟨_, rfl, (s22.trans s24).trans s25⟩
      · rintro σ H22 ⟨v7, rfl, s22⟩
        exact ⟨_, _, _, _, rfl, ((s18.trans s20).trans s21).trans s22⟩
    · rintro σ H18 ⟨v5, v6, v7, v8, rfl, s18⟩
      rfl
end
/-! what the top has written -/
set_option maxHeartbeats 4000000 in
theorem all_mk {l : PySem.W.OpenLaw} {w : World} {K : PySem.W.Frag} {h : Heap} {mg : Str → Option Value} {fa : Addr} (X : K.In h) (G : h.Ns mainGlobals mg) (hfa : mg "law" = some (.ref fa))
    {f_spoken : Addr} {od_spoken an_spoken : Option Addr} {sl_spoken : Array (Option Value)} {oc_spoken kV_spoken dc_spoken pm_spoken cd_spoken ct_spoken : Value}
    {f_commas : Addr} {od_commas an_commas : Option Addr} {sl_commas : Array (Option Value)} {oc_commas kV_commas dc_commas pm_commas cd_commas ct_commas : Value}
    {f_gadget_text : Addr} {od_gadget_text an_gadget_text : Option Addr} {sl_gadget_text : Array (Option Value)} {oc_gadget_text kV_gadget_text dc_gadget_text pm_gadget_text cd_gadget_text ct_gadget_text : Value}
    {f_web_text : Addr} {od_web_text an_web_text : Option Addr} {sl_web_text : Array (Option Value)} {oc_web_text kV_web_text dc_web_text pm_web_text cd_web_text ct_web_text : Value}
    {f__law_deck : Addr} {od__law_deck an__law_deck : Option Addr} {sl__law_deck : Array (Option Value)} {oc__law_deck kV__law_deck dc__law_deck pm__law_deck cd__law_deck ct__law_deck : Value}
    {f__law_next : Addr} {od__law_next an__law_next : Option Addr} {sl__law_next : Array (Option Value)} {oc__law_next kV__law_next dc__law_next pm__law_next cd__law_next ct__law_next : Value}
    {f__law_prime : Addr} {od__law_prime an__law_prime : Option Addr} {sl__law_prime : Array (Option Value)} {oc__law_prime kV__law_prime dc__law_prime pm__law_prime cd__law_prime ct__law_prime : Value}
    {f__law_hold : Addr} {od__law_hold an__law_hold : Option Addr} {sl__law_hold : Array (Option Value)} {oc__law_hold kV__law_hold dc__law_hold pm__law_hold cd__law_hold ct__law_hold : Value}
    {f__law_table : Addr} {od__law_table an__law_table : Option Addr} {sl__law_table : Array (Option Value)} {oc__law_table kV__law_table dc__law_table pm__law_table cd__law_table ct__law_table : Value}
    {f__law_gadget : Addr} {od__law_gadget an__law_gadget : Option Addr} {sl__law_gadget : Array (Option Value)} {oc__law_gadget kV__law_gadget dc__law_gadget pm__law_gadget cd__law_gadget ct__law_gadget : Value}
    {f__law_width : Addr} {od__law_width an__law_width : Option Addr} {sl__law_width : Array (Option Value)} {oc__law_width kV__law_width dc__law_width pm__law_width cd__law_width ct__law_width : Value}
    {f__law_shuffled : Addr} {od__law_shuffled an__law_shuffled : Option Addr} {sl__law_shuffled : Array (Option Value)} {oc__law_shuffled kV__law_shuffled dc__law_shuffled pm__law_shuffled cd__law_shuffled ct__law_shuffled : Value}
    {f__law_ties : Addr} {od__law_ties an__law_ties : Option Addr} {sl__law_ties : Array (Option Value)} {oc__law_ties kV__law_ties dc__law_ties pm__law_ties cd__law_ties ct__law_ties : Value}
    {f__law_web : Addr} {od__law_web an__law_web : Option Addr} {sl__law_web : Array (Option Value)} {oc__law_web kV__law_web dc__law_web pm__law_web cd__law_web ct__law_web : Value}
    {f__law_gadget_text : Addr} {od__law_gadget_text an__law_gadget_text : Option Addr} {sl__law_gadget_text : Array (Option Value)} {oc__law_gadget_text kV__law_gadget_text dc__law_gadget_text pm__law_gadget_text cd__law_gadget_text ct__law_gadget_text : Value}
    {f__law_text : Addr} {od__law_text an__law_text : Option Addr} {sl__law_text : Array (Option Value)} {oc__law_text kV__law_text dc__law_text pm__law_text cd__law_text ct__law_text : Value}
    {f_law : Addr} {od_law an_law : Option Addr} {sl_law : Array (Option Value)} {oc_law kV_law dc_law pm_law cd_law ct_law : Value}
    (a_spoken : PySem.W.nsIn K mainGlobals "spoken" = some (some (.ref f_spoken))) (l_spoken : K.lookup f_spoken = some ⟨oc_spoken, od_spoken, .func (PySem.W.fnOf "spoken" "spoken" (defArgs s_spoken) (defBody s_spoken) (defScope s_spoken) .none kV_spoken dc_spoken pm_spoken an_spoken cd_spoken ct_spoken), sl_spoken⟩) (c_spoken : PySem.W.codeIn K cd_spoken "spoken" = true) (k_spoken : PySem.W.keepIn K (.ref f_spoken) = true)
    (a_commas : PySem.W.nsIn K mainGlobals "commas" = some (some (.ref f_commas))) (l_commas : K.lookup f_commas = some ⟨oc_commas, od_commas, .func (PySem.W.fnOf "commas" "commas" (defArgs s_commas) (defBody s_commas) (defScope s_commas) .none kV_commas dc_commas pm_commas an_commas cd_commas ct_commas), sl_commas⟩) (c_commas : PySem.W.codeIn K cd_commas "commas" = true) (k_commas : PySem.W.keepIn K (.ref f_commas) = true)
    (a_gadget_text : PySem.W.nsIn K mainGlobals "gadget_text" = some (some (.ref f_gadget_text))) (l_gadget_text : K.lookup f_gadget_text = some ⟨oc_gadget_text, od_gadget_text, .func (PySem.W.fnOf "gadget_text" "gadget_text" (defArgs s_gadget_text) (defBody s_gadget_text) (defScope s_gadget_text) .none kV_gadget_text dc_gadget_text pm_gadget_text an_gadget_text cd_gadget_text ct_gadget_text), sl_gadget_text⟩) (c_gadget_text : PySem.W.codeIn K cd_gadget_text "gadget_text" = true) (k_gadget_text : PySem.W.keepIn K (.ref f_gadget_text) = true)
    (a_web_text : PySem.W.nsIn K mainGlobals "web_text" = some (some (.ref f_web_text))) (l_web_text : K.lookup f_web_text = some ⟨oc_web_text, od_web_text, .func (PySem.W.fnOf "web_text" "web_text" (defArgs s_web_text) (defBody s_web_text) (defScope s_web_text) .none kV_web_text dc_web_text pm_web_text an_web_text cd_web_text ct_web_text), sl_web_text⟩) (c_web_text : PySem.W.codeIn K cd_web_text "web_text" = true) (k_web_text : PySem.W.keepIn K (.ref f_web_text) = true)
    (a__law_deck : PySem.W.nsIn K mainGlobals "_law_deck" = some (some (.ref f__law_deck))) (l__law_deck : K.lookup f__law_deck = some ⟨oc__law_deck, od__law_deck, .func (PySem.W.fnOf "_law_deck" "_law_deck" (defArgs s__law_deck) (defBody s__law_deck) (defScope s__law_deck) .none kV__law_deck dc__law_deck pm__law_deck an__law_deck cd__law_deck ct__law_deck), sl__law_deck⟩) (c__law_deck : PySem.W.codeIn K cd__law_deck "_law_deck" = true) (k__law_deck : PySem.W.keepIn K (.ref f__law_deck) = true)
    (a__law_next : PySem.W.nsIn K mainGlobals "_law_next" = some (some (.ref f__law_next))) (l__law_next : K.lookup f__law_next = some ⟨oc__law_next, od__law_next, .func (PySem.W.fnOf "_law_next" "_law_next" (defArgs s__law_next) (defBody s__law_next) (defScope s__law_next) .none kV__law_next dc__law_next pm__law_next an__law_next cd__law_next ct__law_next), sl__law_next⟩) (c__law_next : PySem.W.codeIn K cd__law_next "_law_next" = true) (k__law_next : PySem.W.keepIn K (.ref f__law_next) = true)
    (a__law_prime : PySem.W.nsIn K mainGlobals "_law_prime" = some (some (.ref f__law_prime))) (l__law_prime : K.lookup f__law_prime = some ⟨oc__law_prime, od__law_prime, .func (PySem.W.fnOf "_law_prime" "_law_prime" (defArgs s__law_prime) (defBody s__law_prime) (defScope s__law_prime) .none kV__law_prime dc__law_prime pm__law_prime an__law_prime cd__law_prime ct__law_prime), sl__law_prime⟩) (c__law_prime : PySem.W.codeIn K cd__law_prime "_law_prime" = true) (k__law_prime : PySem.W.keepIn K (.ref f__law_prime) = true)
    (a__law_hold : PySem.W.nsIn K mainGlobals "_law_hold" = some (some (.ref f__law_hold))) (l__law_hold : K.lookup f__law_hold = some ⟨oc__law_hold, od__law_hold, .func (PySem.W.fnOf "_law_hold" "_law_hold" (defArgs s__law_hold) (defBody s__law_hold) (defScope s__law_hold) .none kV__law_hold dc__law_hold pm__law_hold an__law_hold cd__law_hold ct__law_hold), sl__law_hold⟩) (c__law_hold : PySem.W.codeIn K cd__law_hold "_law_hold" = true) (k__law_hold : PySem.W.keepIn K (.ref f__law_hold) = true)
    (a__law_table : PySem.W.nsIn K mainGlobals "_law_table" = some (some (.ref f__law_table))) (l__law_table : K.lookup f__law_table = some ⟨oc__law_table, od__law_table, .func (PySem.W.fnOf "_law_table" "_law_table" (defArgs s__law_table) (defBody s__law_table) (defScope s__law_table) .none kV__law_table dc__law_table pm__law_table an__law_table cd__law_table ct__law_table), sl__law_table⟩) (c__law_table : PySem.W.codeIn K cd__law_table "_law_table" = true) (k__law_table : PySem.W.keepIn K (.ref f__law_table) = true)
    (a__law_gadget : PySem.W.nsIn K mainGlobals "_law_gadget" = some (some (.ref f__law_gadget))) (l__law_gadget : K.lookup f__law_gadget = some ⟨oc__law_gadget, od__law_gadget, .func (PySem.W.fnOf "_law_gadget" "_law_gadget" (defArgs s__law_gadget) (defBody s__law_gadget) (defScope s__law_gadget) .none kV__law_gadget dc__law_gadget pm__law_gadget an__law_gadget cd__law_gadget ct__law_gadget), sl__law_gadget⟩) (c__law_gadget : PySem.W.codeIn K cd__law_gadget "_law_gadget" = true) (k__law_gadget : PySem.W.keepIn K (.ref f__law_gadget) = true)
    (a__law_width : PySem.W.nsIn K mainGlobals "_law_width" = some (some (.ref f__law_width))) (l__law_width : K.lookup f__law_width = some ⟨oc__law_width, od__law_width, .func (PySem.W.fnOf "_law_width" "_law_width" (defArgs s__law_width) (defBody s__law_width) (defScope s__law_width) .none kV__law_width dc__law_width pm__law_width an__law_width cd__law_width ct__law_width), sl__law_width⟩) (c__law_width : PySem.W.codeIn K cd__law_width "_law_width" = true) (k__law_width : PySem.W.keepIn K (.ref f__law_width) = true)
    (a__law_shuffled : PySem.W.nsIn K mainGlobals "_law_shuffled" = some (some (.ref f__law_shuffled))) (l__law_shuffled : K.lookup f__law_shuffled = some ⟨oc__law_shuffled, od__law_shuffled, .func (PySem.W.fnOf "_law_shuffled" "_law_shuffled" (defArgs s__law_shuffled) (defBody s__law_shuffled) (defScope s__law_shuffled) .none kV__law_shuffled dc__law_shuffled pm__law_shuffled an__law_shuffled cd__law_shuffled ct__law_shuffled), sl__law_shuffled⟩) (c__law_shuffled : PySem.W.codeIn K cd__law_shuffled "_law_shuffled" = true) (k__law_shuffled : PySem.W.keepIn K (.ref f__law_shuffled) = true)
    (a__law_ties : PySem.W.nsIn K mainGlobals "_law_ties" = some (some (.ref f__law_ties))) (l__law_ties : K.lookup f__law_ties = some ⟨oc__law_ties, od__law_ties, .func (PySem.W.fnOf "_law_ties" "_law_ties" (defArgs s__law_ties) (defBody s__law_ties) (defScope s__law_ties) .none kV__law_ties dc__law_ties pm__law_ties an__law_ties cd__law_ties ct__law_ties), sl__law_ties⟩) (c__law_ties : PySem.W.codeIn K cd__law_ties "_law_ties" = true) (k__law_ties : PySem.W.keepIn K (.ref f__law_ties) = true)
    (a__law_web : PySem.W.nsIn K mainGlobals "_law_web" = some (some (.ref f__law_web))) (l__law_web : K.lookup f__law_web = some ⟨oc__law_web, od__law_web, .func (PySem.W.fnOf "_law_web" "_law_web" (defArgs s__law_web) (defBody s__law_web) (defScope s__law_web) .none kV__law_web dc__law_web pm__law_web an__law_web cd__law_web ct__law_web), sl__law_web⟩) (c__law_web : PySem.W.codeIn K cd__law_web "_law_web" = true) (k__law_web : PySem.W.keepIn K (.ref f__law_web) = true)
    (a__law_gadget_text : PySem.W.nsIn K mainGlobals "_law_gadget_text" = some (some (.ref f__law_gadget_text))) (l__law_gadget_text : K.lookup f__law_gadget_text = some ⟨oc__law_gadget_text, od__law_gadget_text, .func (PySem.W.fnOf "_law_gadget_text" "_law_gadget_text" (defArgs s__law_gadget_text) (defBody s__law_gadget_text) (defScope s__law_gadget_text) .none kV__law_gadget_text dc__law_gadget_text pm__law_gadget_text an__law_gadget_text cd__law_gadget_text ct__law_gadget_text), sl__law_gadget_text⟩) (c__law_gadget_text : PySem.W.codeIn K cd__law_gadget_text "_law_gadget_text" = true) (k__law_gadget_text : PySem.W.keepIn K (.ref f__law_gadget_text) = true)
    (a__law_text : PySem.W.nsIn K mainGlobals "_law_text" = some (some (.ref f__law_text))) (l__law_text : K.lookup f__law_text = some ⟨oc__law_text, od__law_text, .func (PySem.W.fnOf "_law_text" "_law_text" (defArgs s__law_text) (defBody s__law_text) (defScope s__law_text) .none kV__law_text dc__law_text pm__law_text an__law_text cd__law_text ct__law_text), sl__law_text⟩) (c__law_text : PySem.W.codeIn K cd__law_text "_law_text" = true) (k__law_text : PySem.W.keepIn K (.ref f__law_text) = true)
    (a_law : PySem.W.nsIn K mainGlobals "law" = some (some (.ref f_law))) (l_law : K.lookup f_law = some ⟨oc_law, od_law, .func (PySem.W.fnOf "law" "law" (defArgs s_law) (defBody s_law) (defScope s_law) .none kV_law dc_law pm_law an_law cd_law ct_law), sl_law⟩) (c_law : PySem.W.codeIn K cd_law "law" = true) (k_law : PySem.W.keepIn K (.ref f_law) = true)
    (z_abs : PySem.W.nsIn K mainGlobals "abs" = some none)
    (z_int : PySem.W.nsIn K mainGlobals "int" = some none)
    (z_len : PySem.W.nsIn K mainGlobals "len" = some none)
    (z_list : PySem.W.nsIn K mainGlobals "list" = some none)
    (z_max : PySem.W.nsIn K mainGlobals "max" = some none)
    (z_min : PySem.W.nsIn K mainGlobals "min" = some none)
    (z_range : PySem.W.nsIn K mainGlobals "range" = some none)
    (z_repr : PySem.W.nsIn K mainGlobals "repr" = some none)
    (z_str : PySem.W.nsIn K mainGlobals "str" = some none)
    (z_tuple : PySem.W.nsIn K mainGlobals "tuple" = some none) :
    LawOk l.prog w K mg fa := by
  have e := hfa.symm.trans (PySem.W.mg_of X G a_law)
  cases e
  have F_spoken := fun_mk (st := s_spoken) l_spoken c_spoken k_spoken
  have b_spoken := F_spoken.binds (ps := ["word", "numbers"]) fun _ _ _ _ _ _ us hl => match us, hl with | [_, _], _ => rfl
  have F_commas := fun_mk (st := s_commas) l_commas c_commas k_commas
  have b_commas := F_commas.binds (ps := ["numbers"]) fun _ _ _ _ _ _ us hl => match us, hl with | [_], _ => rfl
  have F_gadget_text := fun_mk (st := s_gadget_text) l_gadget_text c_gadget_text k_gadget_text
  have b_gadget_text := F_gadget_text.binds (ps := ["gadget"]) fun _ _ _ _ _ _ us hl => match us, hl with | [_], _ => rfl
  have F_web_text := fun_mk (st := s_web_text) l_web_text c_web_text k_web_text
  have b_web_text := F_web_text.binds (ps := ["web"]) fun _ _ _ _ _ _ us hl => match us, hl with | [_], _ => rfl
  have F__law_deck := fun_mk (st := s__law_deck) l__law_deck c__law_deck k__law_deck
  have b__law_deck := F__law_deck.binds (ps := ["_law_script"]) fun _ _ _ _ _ _ us hl => match us, hl with | [_], _ => rfl
  have F__law_next := fun_mk (st := s__law_next) l__law_next c__law_next k__law_next
  have b__law_next := F__law_next.binds (ps := ["_law_deck_here", "_law_many"]) fun _ _ _ _ _ _ us hl => match us, hl with | [_, _], _ => rfl
  have F__law_prime := fun_mk (st := s__law_prime) l__law_prime c__law_prime k__law_prime
  have b__law_prime := F__law_prime.binds (ps := ["_law_deck_here"]) fun _ _ _ _ _ _ us hl => match us, hl with | [_], _ => rfl
  have F__law_hold := fun_mk (st := s__law_hold) l__law_hold c__law_hold k__law_hold
  have b__law_hold := F__law_hold.binds (ps := ["_law_deck_here", "_law_posts"]) fun _ _ _ _ _ _ us hl => match us, hl with | [_, _], _ => rfl
  have F__law_table := fun_mk (st := s__law_table) l__law_table c__law_table k__law_table
  have b__law_table := F__law_table.binds (ps := ["_law_deck_here", "_law_p", "_law_posts"]) fun _ _ _ _ _ _ us hl => match us, hl with | [_, _, _], _ => rfl
  have F__law_gadget := fun_mk (st := s__law_gadget) l__law_gadget c__law_gadget k__law_gadget
  have b__law_gadget := F__law_gadget.binds (ps := ["_law_deck_here", "_law_p"]) fun _ _ _ _ _ _ us hl => match us, hl with | [_, _], _ => rfl
  have F__law_width := fun_mk (st := s__law_width) l__law_width c__law_width k__law_width
  have b__law_width := F__law_width.binds (ps := ["_law_gadget_here"]) fun _ _ _ _ _ _ us hl => match us, hl with | [_], _ => rfl
  have F__law_shuffled := fun_mk (st := s__law_shuffled) l__law_shuffled c__law_shuffled k__law_shuffled
  have b__law_shuffled := F__law_shuffled.binds (ps := ["_law_deck_here", "_law_some"]) fun _ _ _ _ _ _ us hl => match us, hl with | [_, _], _ => rfl
  have F__law_ties := fun_mk (st := s__law_ties) l__law_ties c__law_ties k__law_ties
  have b__law_ties := F__law_ties.binds (ps := ["_law_deck_here", "_law_posts"]) fun _ _ _ _ _ _ us hl => match us, hl with | [_, _], _ => rfl
  have F__law_web := fun_mk (st := s__law_web) l__law_web c__law_web k__law_web
  have b__law_web := F__law_web.binds (ps := ["_law_deck_here", "_law_p"]) fun _ _ _ _ _ _ us hl => match us, hl with | [_, _], _ => rfl
  have F__law_gadget_text := fun_mk (st := s__law_gadget_text) l__law_gadget_text c__law_gadget_text k__law_gadget_text
  have b__law_gadget_text := F__law_gadget_text.binds (ps := ["_law_gadget_here"]) fun _ _ _ _ _ _ us hl => match us, hl with | [_], _ => rfl
  have F__law_text := fun_mk (st := s__law_text) l__law_text c__law_text k__law_text
  have b__law_text := F__law_text.binds (ps := ["_law_web_here"]) fun _ _ _ _ _ _ us hl => match us, hl with | [_], _ => rfl
  have F_law := fun_mk (st := s_law) l_law c_law k_law
  have b_law := F_law.binds (ps := ["_law_script"]) fun _ _ _ _ _ _ us hl => match us, hl with | [_], _ => rfl
  let A : Ad := ⟨f_spoken, PySem.W.fnOf "spoken" "spoken" (defArgs s_spoken) (defBody s_spoken) (defScope s_spoken) .none kV_spoken dc_spoken pm_spoken an_spoken cd_spoken ct_spoken, f_commas, PySem.W.fnOf "commas" "commas" (defArgs s_commas) (defBody s_commas) (defScope s_commas) .none kV_commas dc_commas pm_commas an_commas cd_commas ct_commas, f_gadget_text, PySem.W.fnOf "gadget_text" "gadget_text" (defArgs s_gadget_text) (defBody s_gadget_text) (defScope s_gadget_text) .none kV_gadget_text dc_gadget_text pm_gadget_text an_gadget_text cd_gadget_text ct_gadget_text, f_web_text, PySem.W.fnOf "web_text" "web_text" (defArgs s_web_text) (defBody s_web_text) (defScope s_web_text) .none kV_web_text dc_web_text pm_web_text an_web_text cd_web_text ct_web_text, f__law_deck, PySem.W.fnOf "_law_deck" "_law_deck" (defArgs s__law_deck) (defBody s__law_deck) (defScope s__law_deck) .none kV__law_deck dc__law_deck pm__law_deck an__law_deck cd__law_deck ct__law_deck, f__law_next, PySem.W.fnOf "_law_next" "_law_next" (defArgs s__law_next) (defBody s__law_next) (defScope s__law_next) .none kV__law_next dc__law_next pm__law_next an__law_next cd__law_next ct__law_next, f__law_prime, PySem.W.fnOf "_law_prime" "_law_prime" (defArgs s__law_prime) (defBody s__law_prime) (defScope s__law_prime) .none kV__law_prime dc__law_prime pm__law_prime an__law_prime cd__law_prime ct__law_prime, f__law_hold, PySem.W.fnOf "_law_hold" "_law_hold" (defArgs s__law_hold) (defBody s__law_hold) (defScope s__law_hold) .none kV__law_hold dc__law_hold pm__law_hold an__law_hold cd__law_hold ct__law_hold, f__law_table, PySem.W.fnOf "_law_table" "_law_table" (defArgs s__law_table) (defBody s__law_table) (defScope s__law_table) .none kV__law_table dc__law_table pm__law_table an__law_table cd__law_table ct__law_table, f__law_gadget, PySem.W.fnOf "_law_gadget" "_law_gadget" (defArgs s__law_gadget) (defBody s__law_gadget) (defScope s__law_gadget) .none kV__law_gadget dc__law_gadget pm__law_gadget an__law_gadget cd__law_gadget ct__law_gadget, f__law_width, PySem.W.fnOf "_law_width" "_law_width" (defArgs s__law_width) (defBody s__law_width) (defScope s__law_width) .none kV__law_width dc__law_width pm__law_width an__law_width cd__law_width ct__law_width, f__law_shuffled, PySem.W.fnOf "_law_shuffled" "_law_shuffled" (defArgs s__law_shuffled) (defBody s__law_shuffled) (defScope s__law_shuffled) .none kV__law_shuffled dc__law_shuffled pm__law_shuffled an__law_shuffled cd__law_shuffled ct__law_shuffled, f__law_ties, PySem.W.fnOf "_law_ties" "_law_ties" (defArgs s__law_ties) (defBody s__law_ties) (defScope s__law_ties) .none kV__law_ties dc__law_ties pm__law_ties an__law_ties cd__law_ties ct__law_ties, f__law_web, PySem.W.fnOf "_law_web" "_law_web" (defArgs s__law_web) (defBody s__law_web) (defScope s__law_web) .none kV__law_web dc__law_web pm__law_web an__law_web cd__law_web ct__law_web, f__law_gadget_text, PySem.W.fnOf "_law_gadget_text" "_law_gadget_text" (defArgs s__law_gadget_text) (defBody s__law_gadget_text) (defScope s__law_gadget_text) .none kV__law_gadget_text dc__law_gadget_text pm__law_gadget_text an__law_gadget_text cd__law_gadget_text ct__law_gadget_text, f__law_text, PySem.W.fnOf "_law_text" "_law_text" (defArgs s__law_text) (defBody s__law_text) (defScope s__law_text) .none kV__law_text dc__law_text pm__law_text an__law_text cd__law_text ct__law_text, fa, PySem.W.fnOf "law" "law" (defArgs s_law) (defBody s_law) (defScope s_law) .none kV_law dc_law pm_law an_law cd_law ct_law⟩
  have T : Tx K mg A := ⟨⟨F_spoken, b_spoken, PySem.W.mg_of X G a_spoken⟩, ⟨F_commas, b_commas, PySem.W.mg_of X G a_commas⟩, ⟨F_gadget_text, b_gadget_text, PySem.W.mg_of X G a_gadget_text⟩, ⟨F_web_text, b_web_text, PySem.W.mg_of X G a_web_text⟩, ⟨F__law_deck, b__law_deck, PySem.W.mg_of X G a__law_deck⟩, ⟨F__law_next, b__law_next, PySem.W.mg_of X G a__law_next⟩, ⟨F__law_prime, b__law_prime, PySem.W.mg_of X G a__law_prime⟩, ⟨F__law_hold, b__law_hold, PySem.W.mg_of X G a__law_hold⟩, ⟨F__law_table, b__law_table, PySem.W.mg_of X G a__law_table⟩, ⟨F__law_gadget, b__law_gadget, PySem.W.mg_of X G a__law_gadget⟩, ⟨F__law_width, b__law_width, PySem.W.mg_of X G a__law_width⟩, ⟨F__law_shuffled, b__law_shuffled, PySem.W.mg_of X G a__law_shuffled⟩, ⟨F__law_ties, b__law_ties, PySem.W.mg_of X G a__law_ties⟩, ⟨F__law_web, b__law_web, PySem.W.mg_of X G a__law_web⟩, ⟨F__law_gadget_text, b__law_gadget_text, PySem.W.mg_of X G a__law_gadget_text⟩, ⟨F__law_text, b__law_text, PySem.W.mg_of X G a__law_text⟩, ⟨F_law, b_law, PySem.W.mg_of X G a_law⟩, PySem.W.mg_none_of X G z_abs, PySem.W.mg_none_of X G z_int, PySem.W.mg_none_of X G z_len, PySem.W.mg_none_of X G z_list, PySem.W.mg_none_of X G z_max, PySem.W.mg_none_of X G z_min, PySem.W.mg_none_of X G z_range, PySem.W.mg_none_of X G z_repr, PySem.W.mg_none_of X G z_str, PySem.W.mg_none_of X G z_tuple⟩
  exact ok_law T
end Kp

open PySem PySem.W PyProof.Rows in
set_option maxRecDepth 100000 in
set_option maxHeartbeats 0 in
theorem PySem.Challenge.cw_fairposts_k92_texts_shown_holds : PySem.Challenge.rw_fairposts_k92_texts_shown.Holds := by
  w_on; o_law; k_head; (case hw => w_witness2)
  k_fill
  refine Kp.walk_g (l := PySem.Challenge.rw_fairposts_k92_texts_shown) rfl rfl (by decide +kernel) (fun w h Y => PySem.W.kIn_of Y) ?F
  case F =>
    intro w mg fa h KX G hmg
    refine' Kp.all_mk KX G hmg ?a_spoken ?l_spoken ?c_spoken ?k_spoken ?a_commas ?l_commas ?c_commas ?k_commas ?a_gadget_text ?l_gadget_text ?c_gadget_text ?k_gadget_text ?a_web_text ?l_web_text ?c_web_text ?k_web_text ?a__law_deck ?l__law_deck ?c__law_deck ?k__law_deck ?a__law_next ?l__law_next ?c__law_next ?k__law_next ?a__law_prime ?l__law_prime ?c__law_prime ?k__law_prime ?a__law_hold ?l__law_hold ?c__law_hold ?k__law_hold ?a__law_table ?l__law_table ?c__law_table ?k__law_table ?a__law_gadget ?l__law_gadget ?c__law_gadget ?k__law_gadget ?a__law_width ?l__law_width ?c__law_width ?k__law_width ?a__law_shuffled ?l__law_shuffled ?c__law_shuffled ?k__law_shuffled ?a__law_ties ?l__law_ties ?c__law_ties ?k__law_ties ?a__law_web ?l__law_web ?c__law_web ?k__law_web ?a__law_gadget_text ?l__law_gadget_text ?c__law_gadget_text ?k__law_gadget_text ?a__law_text ?l__law_text ?c__law_text ?k__law_text ?a_law ?l_law ?c_law ?k_law ?z_abs ?z_int ?z_len ?z_list ?z_max ?z_min ?z_range ?z_repr ?z_str ?z_tuple
    (case a_spoken => k_is)
    (case l_spoken => k_is)
    (case c_spoken => k_is)
    (case k_spoken => k_is)
    (case a_commas => k_is)
    (case l_commas => k_is)
    (case c_commas => k_is)
    (case k_commas => k_is)
    (case a_gadget_text => k_is)
    (case l_gadget_text => k_is)
    (case c_gadget_text => k_is)
    (case k_gadget_text => k_is)
    (case a_web_text => k_is)
    (case l_web_text => k_is)
    (case c_web_text => k_is)
    (case k_web_text => k_is)
    (case a__law_deck => k_is)
    (case l__law_deck => k_is)
    (case c__law_deck => k_is)
    (case k__law_deck => k_is)
    (case a__law_next => k_is)
    (case l__law_next => k_is)
    (case c__law_next => k_is)
    (case k__law_next => k_is)
    (case a__law_prime => k_is)
    (case l__law_prime => k_is)
    (case c__law_prime => k_is)
    (case k__law_prime => k_is)
    (case a__law_hold => k_is)
    (case l__law_hold => k_is)
    (case c__law_hold => k_is)
    (case k__law_hold => k_is)
    (case a__law_table => k_is)
    (case l__law_table => k_is)
    (case c__law_table => k_is)
    (case k__law_table => k_is)
    (case a__law_gadget => k_is)
    (case l__law_gadget => k_is)
    (case c__law_gadget => k_is)
    (case k__law_gadget => k_is)
    (case a__law_width => k_is)
    (case l__law_width => k_is)
    (case c__law_width => k_is)
    (case k__law_width => k_is)
    (case a__law_shuffled => k_is)
    (case l__law_shuffled => k_is)
    (case c__law_shuffled => k_is)
    (case k__law_shuffled => k_is)
    (case a__law_ties => k_is)
    (case l__law_ties => k_is)
    (case c__law_ties => k_is)
    (case k__law_ties => k_is)
    (case a__law_web => k_is)
    (case l__law_web => k_is)
    (case c__law_web => k_is)
    (case k__law_web => k_is)
    (case a__law_gadget_text => k_is)
    (case l__law_gadget_text => k_is)
    (case c__law_gadget_text => k_is)
    (case k__law_gadget_text => k_is)
    (case a__law_text => k_is)
    (case l__law_text => k_is)
    (case c__law_text => k_is)
    (case k__law_text => k_is)
    (case a_law => k_is)
    (case l_law => k_is)
    (case c_law => k_is)
    (case k_law => k_is)
    (case z_abs => k_is)
    (case z_int => k_is)
    (case z_len => k_is)
    (case z_list => k_is)
    (case z_max => k_is)
    (case z_min => k_is)
    (case z_range => k_is)
    (case z_repr => k_is)
    (case z_str => k_is)
    (case z_tuple => k_is)
#print axioms PySem.Challenge.cw_fairposts_k92_texts_shown_holds
