import PyProof.Rows.All
import Wide.All
import OpenK.AllK
import Wide.FinOn
import HandS.ForMost
import HandS.Rev
import PyProof.JoinWalk
import HandS.Exc
import HandS.ExcOwn
import HandS.ExcIs
import HandS.ExcField
import HandS.ExcInit
import HandS.HotCalls
import HandS.WordsExc
import HandS.IsInst
import HandS.List
import KE.KExcIs
import PyProof.Rows.CountFlat
import PyProof.ReprDict
import HandS.OwnEq
import PyProof.InstEq
import KE.KCallOwn
import HandS.Text
import HandS.Codes
import HandS.Iter
import HandS.Comp
import HandS.Style
import KE.KRevSl
import HandS.Gcd
import HandS.Wide
import HandS.FStr
import HandS.StrMore
import HandS.NoneIn
import HandS.Defaults
import HandS.Spec
import HandS.Walk
import HandS.TupLe
import HandS.CallLocal
import PyProof.StrLawsRepr
import PySem.Challenge.RW_casknotes_k01_names_grains_days
set_option Elab.async false
set_option linter.all false
set_option maxRecDepth 100000
set_option maxHeartbeats 4000000
/-! repr of things, by the abstract heap: what is told of a value, beneath a running body whose guards are known -/
namespace Rp
open PySem PySem.Spec PyProof.Rows L2

/-- beneath X: room for n calls, X's frames, the guards that run -/
structure Low (X : Cx) (n : Nat) (g : List Code) (A : Around) : Prop where
  rm : Room n A
  fr : A.frames = X.A.frames
  gd : A.guards = some g
section
variable {X : Cx} {n m : Nat} {g : List Code} {A : Around} {a : Addr}
theorem Low.in1 (s : Low X (n + 1) g A) : Low X n g A.in1 := ⟨s.rm.in1, s.fr, s.gd⟩
theorem Low.mono (s : Low X n g A) (h : m ≤ n) : Low X m g A := ⟨s.rm.mono h, s.fr, s.gd⟩
theorem Low.guard {id : String} {v : Value} {us : List Value} (s : Low X (n + 1) g A)
    (hg : (Code.builtin id ⟨v :: us, []⟩).guards = [Code.builtin id ⟨v :: us, []⟩]) (hw : (Code.builtin id ⟨v :: us, []⟩).weight = 1) (hu : (Code.builtin id ⟨v :: us, []⟩).cUnits = 1)
    (he : (Code.builtin id ⟨v :: us, []⟩).envs = []) :
    Low X n (Code.builtin id ⟨v :: us, []⟩ :: g) (A.under (Code.builtin id ⟨v :: us, []⟩)) := by
  obtain ⟨⟨r1, r2, r3⟩, f, gd⟩ := s
  refine ⟨⟨r1, ?_, ?_⟩, ?_, ?_⟩
  · show A.depth + (Code.builtin id ⟨v :: us, []⟩).weight + 3 * n + 5 < _
    rw [hw]; omega
  · show A.units + (Code.builtin id ⟨v :: us, []⟩).cUnits + 16 * n + 200 < _
    rw [hu]; omega
  · show pushEnvs (Code.builtin id ⟨v :: us, []⟩).envs A.frames = _
    rw [he]; exact f
  · show pushGuards (Code.builtin id ⟨v :: us, []⟩).guards A.guards = _
    rw [hg, gd]; rfl
end

/-- what repr tells of v, at any heap grown from H -/
structure Says (X : Cx) (n : Nat) (as : List Addr) (H : Hp) (v : V) (t : Str) : Prop where
  und : ∀ (A : Around) (g : List Code) (base : Nat) (pins : List (Addr × Obj)) (s : Shared) (σ : L2.St) (H1 : Hp) (u : Value), Low X n g A → (∀ b ∈ as, Clear g b) → Inv X pins σ H1 s → Same H H1 → RelV v u → base + t.length ≤ sizeLine →
    wpAny (model X.prog X.w) A (pyReprUnder base u) (fun r s' => r = t ∧ ∃ H2, Inv X pins σ H2 s' ∧ Same H1 H2) X.xe s
  top : ∀ (A : Around) (g : List Code) (pins : List (Addr × Obj)) (s : Shared) (σ : L2.St) (H1 : Hp) (u : Value), Low X n g A → (∀ b ∈ as, Clear g b) → Inv X pins σ H1 s → Same H H1 → RelV v u → t.length ≤ sizeLine →
    wpAny (model X.prog X.w) A (call (.builtin "repr") [u]) (fun r s' => (∃ tk, r = .str t tk) ∧ ∃ H2, Inv X pins σ H2 s' ∧ Same H1 H2) X.xe s

section
variable {X : Cx} {n m : Nat} {as as' : List Addr} {H H' : Hp} {v : V} {t : Str} {a : Addr}
theorem Says.grow (h : Says X n as H v t) (e : Same H H') : Says X n as H' v t :=
  ⟨fun A g base pins s σ H1 u lo cl I x => h.und A g base pins s σ H1 u lo cl I (e.trans x), fun A g pins s σ H1 u lo cl I x => h.top A g pins s σ H1 u lo cl I (e.trans x)⟩
theorem Says.mono (h : Says X n as H v t) (hn : n ≤ m) (hs : ∀ b ∈ as, b ∈ as') : Says X m as' H v t :=
  ⟨fun A g base pins s σ H1 u lo cl => h.und A g base pins s σ H1 u (lo.mono hn) fun b hb => cl b (hs b hb), fun A g pins s σ H1 u lo cl => h.top A g pins s σ H1 u (lo.mono hn) fun b hb => cl b (hs b hb)⟩
theorem says_leaf (hi : ∀ u, RelV v u → ReprIs X.prog X.w u t) (ht : ∀ (A : Around) (E : Value → Shared → Prop) (s : Shared) (u : Value) (Q : Value → Shared → Prop), RelV v u → t.length ≤ sizeLine → Q (.str t s.toks) { s with toks := s.toks + 1 } → wpAny (model X.prog X.w) A (call (.builtin "repr") [u]) Q E s) :
    Says X 0 [] H v t :=
  ⟨fun A g base pins s σ H1 u _ _ I _ r hz => hi u r base hz A X.xe s _ fun tk => ⟨rfl, H1, I.tok tk, Same.refl H1⟩,
   fun A g pins s σ H1 u _ _ I _ r hz => ht A X.xe s u _ r hz ⟨⟨_, rfl⟩, H1, I.tok _, Same.refl H1⟩⟩
theorem says_bl (b : Bool) : Says X 0 [] H (.bl b) (if b then "True" else "False" : String) := by
  refine says_leaf (fun u r => ?_) fun A E s u Q r _ q => ?_
  · cases r
    have h := ReprIs.bool (prog := X.prog) (w := X.w) b
    cases b <;> exact h
  · cases r
    refine PySem.P.repr_of_bool ?_
    cases b <;> exact q
theorem says_non : Says X 0 [] H .non ("None" : String) := by
  refine says_leaf (fun u r => ?_) fun A E s u Q r _ q => ?_
  · cases r; exact ReprIs.none
  · cases r; exact PySem.P.repr_of_none q
theorem says_int {i : Int} (hi : i.natAbs.log2 < 1920) : Says X 0 [] H (.int i) (toString i) := by
  refine says_leaf (fun u r => ?_) fun A E s u Q r _ q => ?_
  · obtain ⟨tk, rfl⟩ := r; exact ReprIs.int tk hi
  · obtain ⟨tk, rfl⟩ := r; exact PySem.P.repr_of_int hi q
theorem says_str {x : Str} (hx : (reprText x).length ≤ sizeLine) : Says X 0 [] H (.str x) (reprText x) := by
  refine says_leaf (fun u r => ?_) fun A E s u Q r hz q => ?_
  · obtain ⟨tk, rfl⟩ := r; exact ReprIs.str x tk hx
  · obtain ⟨tk, rfl⟩ := r; exact PySem.P.repr_of_str q hz
end

/-! ### lists -/
section
variable {X : Cx} {n : Nat} {as : List Addr} {H : Hp} {a P : Addr} {xs : List V} {ts : List Str} {base : Nat} {g : List Code} {A : Around} {pins : List (Addr × Obj)} {σ : L2.St}
abbrev loopC (a P : Addr) (i k : Nat) : Code := .builtin "list.__repr__.loop" ⟨[.ref a, rawInt i, .ref P, rawInt (k : Int)], []⟩
theorem low_loop (lo : Low X (n + 1) g A) (i k : Nat) : Low X n (loopC a P i k :: g) (A.under (loopC a P i k)) :=
  lo.guard (by show (if Code.isGuard _ then _ else _) = _; rw [isGuard_list_loop]; rfl)
    (by simp only [Code.weight, isGuard_list_loop]; rfl)
    (by rfl) (by first | rfl | simp [Code.envs, Code.isFrame])
theorem lst_turns (lo : Low X (n + 1) g A) (hcl : ∀ b ∈ as, Clear g b) (hna : a ∉ as) (hit : ∀ (i : Nat) (x : V), xs[i]? = some x → ∃ t, ts[i]? = some t ∧ Says X n as H x t) (hl : ts.length = xs.length)
    (hsz : base + (listText ts).length ≤ sizeLine) (hq : SqL X.K H a xs) (haP : a ≠ P) {R : Result → Shared → Prop}
    (fin : ∀ s H2 u, Inv X pins σ H2 s → Same H H2 → R (.ok (.ret (.str (listText ts) u))) s) (bad : ∀ e s, X.xe e s → R (.error e) s) :
    ∀ (k i : Nat) (s : Shared) (H1 : Hp) (acc : Array Value) (c : Nat) (done : List (Str × Tok)), xs.length - i = k → i ≤ xs.length → Inv X pins σ H1 s → Same H H1 → FpOk X pins H1 P →
      s.heap.get? P = some { cls := .type "list", dict := none, data := .seq acc c, slots := #[] } → acc.toList = strValues done → done.map (·.1) = ts.take i →
      codeAny (model X.prog X.w) A (loopC a P i (base + piled (ts.take i))) R s := by
  have hL := textFrom_len ts 0 "["
  have hX : (listText ts).length = (textFrom 0 "[" ts).length + 1 := by
    unfold listText
    rw [strLen_append]; rfl
  have hsz0 : (listText ts).length ≤ sizeLine := by omega
  have small : ∀ t ∈ ts, t.length ≤ sizeLine := fun t ht => by
    have h2 := hL.2.1 t ht
    omega
  have hp3 := piled_le_listText ts
  have hn1 : xs.length ≤ sizeLine := by
    have h1 := hL.1
    rw [if_neg (Nat.lt_irrefl 0)] at h1
    omega
  intro k
  induction k with
  | zero =>
    intro i s H1 acc c done hk hi I hs fp hP hacc hdone
    have hin : i = xs.length := by omega
    obtain ⟨its, rv, pl, _⟩ := I.list (hs.seq hq)
    obtain ⟨oa, na, ho, _, _, hd⟩ := pl
    refine codeAny_builtin PySem.F.entry_list_repr_loop ?_
    show wpAny _ _ (Builtin.«list.__repr__.loop» ⟨[.ref a, .int i 0, .ref P, .int ((base + piled (ts.take i) : Nat) : Int) 0], []⟩) _ _ s
    rw [repr_loop_tree]
    refine wpAny_bind (wpAny_listItems ho hd ?_)
    have none_ : its.toArray[((i : Int)).toNat]? = none := by
      have := rv.length
      simp; omega
    simp only [none_]
    unfold reprEnd
    refine wpAny_bind (wpAny_listItems hP rfl ?_)
    rw [hacc, repr_fold]
    have hall : done.map (·.1) = ts := by rw [hdone, hin, ← hl, List.take_length]
    refine wpAny_bind (wpAny_pure ?_)
    rw [hall]
    exact wpAny_bind (wpAny_mkStr (wpAny_pure (fin _ H1 _ (I.tok _) hs)) hsz0)
  | succ k ih =>
    intro i s H1 acc c done hk hi I hs fp hP hacc hdone
    have hlt : i < xs.length := by omega
    obtain ⟨its, rv, pl, _⟩ := I.list (hs.seq hq)
    obtain ⟨oa, na, ho, _, _, hd⟩ := pl
    have hlt2 : i < its.length := by rw [← rv.length]; exact hlt
    obtain ⟨t, ht, hsay⟩ := hit i xs[i] (List.getElem?_eq_getElem hlt)
    obtain ⟨u, hu, ru⟩ := rv.get (List.getElem?_eq_getElem hlt)
    have hp1 := piled_take_succ ht
    have hp2 := piled_take_le ts (i + 1)
    refine codeAny_builtin PySem.F.entry_list_repr_loop ?_
    show wpAny _ _ (Builtin.«list.__repr__.loop» ⟨[.ref a, .int i 0, .ref P, .int ((base + piled (ts.take i) : Nat) : Int) 0], []⟩) _ _ s
    rw [repr_loop_tree]
    refine wpAny_bind (wpAny_listItems ho hd ?_)
    have some_ : its.toArray[i]? = some u := by simpa using hu
    simp only [Int.toNat_natCast, some_]
    obtain ⟨f0, f1, f2, f3, f4, f5⟩ := id fp
    have Ip : Inv X ((P, { cls := .type "list", dict := none, data := .seq acc c, slots := #[] }) :: pins) σ H1 s := I.pins_of fun p hp => by
      rcases List.mem_cons.mp hp with e | hp
      · rw [e]
        exact ⟨hP, f0, f1, f2, fun v z => by cases z⟩
      · exact I.pin p (List.mem_append_right _ hp)
    refine wpAny_bind (wpAny_holding (wpAny_mono (hsay.und (A.under (loopC a P i (base + piled (ts.take i)))) (loopC a P i (base + piled (ts.take i)) :: g) (base + piled (ts.take i) + 1) _ s σ H1 u (low_loop lo i _)
      (fun b hb => (hcl b hb).cons (a := a) fun e => hna (e ▸ hb)) Ip hs ru (by omega)) (fun r s2 hr => ?_) fun e s2 he => bad e s2 he))
    obtain ⟨er, H2, I2, e2⟩ := hr
    subst er
    obtain ⟨hP2, n2, _⟩ := I2.pin _ (List.mem_append_right _ List.mem_cons_self)
    have I3 : Inv X pins σ H2 s2 := I2.pins_of fun p hp => I2.pin p (List.mem_append_right _ (List.mem_cons_of_mem _ hp))
    refine wpAny_bind (wpAny_mkStr ?_ (small r (List.mem_of_getElem? ht)))
    refine wpAny_bind ?_
    show wpAny _ _ (updateSeq P _) _ _ _
    have hasz : acc.size ≤ sizeLine := by
      have e1 : acc.toList.length = acc.size := by simp
      have e3 : done.length = (ts.take i).length := by rw [← hdone, List.length_map]
      have e4 : (ts.take i).length ≤ i := by rw [List.length_take]; omega
      have e5 : (strValues done).length = done.length := by simp [strValues]
      rw [hacc] at e1; omega
    refine wpAny_updateSeq hP2 rfl (wpAny_pure ⟨PySem.F.quiet_list_repr_loop _, ?_⟩) hasz
    have e1 : ((i : Int) + 1) = ((i + 1 : Nat) : Int) := by omega
    have e3 : base + piled (ts.take i) + (r.length + 2) = base + piled (ts.take (i + 1)) := by omega
    rw [e1, e3]
    have fp2 : FpOk X pins H2 P := ⟨n2, f1, f2, f3, f4, f5⟩
    refine ih (i + 1) _ H2 (acc.push (.str r s2.toks)) _ (done ++ [(r, s2.toks)]) (by omega) hlt ((I3.tok (s2.toks + 1)).turned (t' := s2.toks + 1) (it := P) (fun b o hb e => ?_) n2 f1 f3 f4 f5) (hs.trans e2) fp2 (Heap.get?_update_self _ hP2 rfl) ?_ ?_
    · exact (Heap.get?_update_other _ _ (fun z : P = b => hb z.symm)).trans e
    · simp [hacc, strValues]
    · rw [List.map_append, hdone, List.take_add_one, ht]
      rfl

/-- the body of list.__repr__, of any base -/
theorem lst_body (lo : Low X (n + 1) g A) (hcl : ∀ b ∈ a :: as, Clear g b) (hna : a ∉ as) (hit : ∀ (i : Nat) (x : V), xs[i]? = some x → ∃ t, ts[i]? = some t ∧ Says X n as H x t) (hl : ts.length = xs.length)
    (hsz : base + (listText ts).length ≤ sizeLine) (hq : SqL X.K H a xs) {s : Shared} {H1 : Hp} (I : Inv X pins σ H1 s) (hs : Same H H1) {R : Result → Shared → Prop}
    (fin : ∀ s H2 u, Inv X pins σ H2 s → Same H1 H2 → R (.ok (.ret (.str (listText ts) u))) s) (bad : ∀ e s, X.xe e s → R (.error e) s) :
    wpAny (model X.prog X.w) A.in1 (Builtin.listReprAt base ⟨[.ref a], []⟩) (fun fin s' => match fin with | .done f => R (.ok f) s' | .again c' => c'.quiet = true ∧ codeAny (model X.prog X.w) A c' R s') (fun e s' => R (.error e) s') s := by
  obtain ⟨its, rv, pl, _⟩ := I.list (hs.seq hq)
  obtain ⟨oa, na, ho, hc, _, hd⟩ := id pl
  have hca : Clear g a := hcl a List.mem_cons_self
  cases its with
  | nil =>
    cases rv
    have e : ts = [] := List.length_eq_zero_iff.mp hl
    subst e
    refine wpAny_list_repr_empty ho hd ?_
    have q := fin _ H1 s.toks (I.tok (s.toks + 1)) (Same.refl H1)
    rw [listText_nil] at q
    exact q
  | cons y its =>
    refine wpAny_list_repr_head (A := A.in1) lo.gd (fun v rest kw hm => listSameRef_of_ne (hca _ _ _ _ hm)) ho hd ?_
    refine wpAny_bind (m := newList []) (wpAny_newObj_type ?_)
    refine wpAny_pure ⟨PySem.F.quiet_list_repr_loop _, ?_⟩
    have fp := I.fpOk (H' := H1) (Nat.le_refl _) (I.hok.fresh (Nat.le_refl _))
    have q := lst_turns (P := s.heap.objs.size) (R := R) lo (fun b hb => hcl b (List.mem_cons_of_mem _ hb)) hna (fun i x h => let ⟨t, h1, h2⟩ := hit i x h; ⟨t, h1, h2.grow hs⟩) hl hsz (hs.seq hq) (Nat.ne_of_lt (Heap.lt_size ho)) fin bad
      xs.length 0 { s with heap := s.heap.push { cls := .type "list", dict := none, data := .seq [].toArray } } H1 #[] _ [] rfl (Nat.zero_le _) (I.kept (t' := s.toks) fun b o e => Heap.get?_push_of_some _ e) (Same.refl H1) fp (Heap.get?_push_size _ rfl) rfl rfl
    rw [show base + piled (List.take 0 ts) = base by simp [piled]] at q
    exact q
theorem says_lst (hq : SqL X.K H a xs) (hna : a ∉ as) (hl : ts.length = xs.length) (hit : ∀ (i : Nat) (x : V), xs[i]? = some x → ∃ t, ts[i]? = some t ∧ Says X n as H x t) : Says X (n + 2) (a :: as) H (.ref a) (listText ts) := by
  refine ⟨fun A g base pins s σ H1 u lo cl I hs ru hz => ?_, fun A g pins s σ H1 u lo cl I hs ru hz => ?_⟩
  · cases ru
    obtain ⟨its, rv, ⟨oa, na, ho, hc, _, hd⟩, _⟩ := I.list (hs.seq hq)
    refine wpAny_pyReprUnder_ref (by omega) (wpAny_pyReprObjUnder_twin (twin := "list.__repr__.under") ⟨oa, ho, hc⟩ PySem.F.slot_list_repr.toG rfl lo.rm.units0
      (call_twin_plain PySem.F.plain_list_repr_under PySem.F.entry_list_repr_under PySem.F.check_list_repr_under ⟨oa, ho, hc⟩ PySem.F.slot_list_repr.toG (PySem.F.args_list_repr_1 _) ?_))
    exact lst_body (R := callEnd _ _) (lo.mono (by omega)) cl hna hit hl hz hq I hs (fun s2 H2 tk I2 e2 => ⟨⟨_, _, rfl⟩, _, _, rfl, rfl, H2, I2, e2⟩) fun e s2 he => he
  · cases ru
    obtain ⟨its, rv, ⟨oa, na, ho, hc, _, hd⟩, _⟩ := I.list (hs.seq hq)
    have h1 := lo.rm.units
    refine call_repr_slot (by omega) ⟨oa, ho, hc⟩ PySem.F.slot_list_repr.toG (wpAny_call (codeAny_call_builtin PySem.F.slot_list_repr.plain PySem.F.entry_list_repr (PySem.F.slot_list_repr.check _ _ _ _ _ _ _ _ ⟨oa, ho, hc⟩ (PySem.F.args_list_repr_1 _) ?_)))
    exact lst_body (A := A.in1) (base := 0) (R := callEnd _ _) lo.in1 cl hna hit hl (by omega) hq I hs (fun s2 H2 tk I2 e2 => ⟨_, _, rfl, ⟨_, rfl⟩, H2, I2, e2⟩) fun e s2 he => he
end

/-! ### instances of an own class with an own __repr__ -/
section
variable {X : Cx} {n : Nat} {H : Hp} {a C dx f : Addr} {fs : List (Str × V)} {fd : FuncData} {ps : List Str} {sp : Sp} {CX : CXT} {E : XK} {t : Str} {g : List Code} {A : Around} {pins : List (Addr × Obj)} {σ : L2.St} {s : Shared}
/-- a method of one argument, called from beneath X -/
theorem own_run (F : FnOk X.prog X.w X.K X.mg X.base CX n f fd ps sp) (hb : Binds X.K fd ps []) (hx : Passes CX X E) (lo : Low X n g A) (I : Inv X pins σ H s) {Q : VK} (hsp : sp [.ref a] H Q E) :
    wpAny (model X.prog X.w) A (call (.ref f) [.ref a]) (EP X pins σ Q) X.xe s := by
  have e := I.env0
  have e0 : Env0 X.prog X.w X.K X.mg X.base A X.stack s H := ⟨lo.fr.trans e.frames, e.mod, e.bs, e.bsz, e.funs, e.frf, e.hok, e.bare⟩
  have hl := F.len _ _ _ _ hsp
  have bt := hb s [.ref a] I.kIn (by simpa using hl)
  rw [List.append_nil] at bt
  refine wpAny_call (codeAny_mono (F.run A X.stack s H ⟨[.ref a], []⟩ [.ref a] [.ref a] Q E lo.rm e0 bt (.cons rfl .nil) hsp) fun r s' hq => ?_)
  match r, hq with
  | .error e, hq => exact hx pins σ H s e s' I hq
  | .ok (.ret w), hq => exact I.after hq
theorem own_by {M : Model} {last : Value → List Value → Sem Value} {Q : Option Value → Shared → Prop} {E : Value → Shared → Prop} {K : PySem.W.Frag} {x : Addr} {ox : Obj} {od : Option Obj} {name : Str} (kx : K.In s.heap) (J : PySem.W.InstAt s.heap x ox C od)
    (hs : PySem.W.findIn K (.ref C) name = some (some (.ref f))) (hf : PySem.W.isFn K (.ref f) = true) (h : wpAny M A (last (.ref f) [.ref x]) (fun v => Q (some v)) E s) : wpAny M A (callSpecialIfBoundBy? last (.ref x) name) Q E s := by
  have done : wpAny M A (last (.ref f) [.ref x] >>= fun v => pure (some v)) Q E s := wpAny_bind (wpAny_mono h (fun _ _ q => wpAny_pure q) fun _ _ q => q)
  have bd := PySem.W.bind_fn (M := M) kx (.ref x) (beq_iff_eq.mp hf)
  simp only [callSpecialIfBoundBy?, bindSpecialIfBound?]
  refine wpAny_holding (wpAny_bind (wpAny_bind (wpAny_bind (J.type.here ((PySem.W.looks_findIn kx hs).here (wpAny_bind (wpAny_askSetting (wpAny_ite ?_))))))))
  split
  · exact wpAny_bind (bd.here (wpAny_pure done))
  · exact wpAny_tryCatch (wpAny_bind (bd.here (wpAny_pure done)))
theorem says_own (F : FnOk X.prog X.w X.K X.mg X.base CX n f fd ps sp) (hs : PySem.W.findIn X.K (.ref C) "__repr__" = some (some (.ref f))) (hf : PySem.W.isFn X.K (.ref f) = true) (hb : Binds X.K fd ps []) (hx : Passes CX X E)
    (ha : H a = some (.ins C dx fs)) (hsp : ∀ H1, Same H H1 → sp [.ref a] H1 (fun v H2 => v = .str t ∧ Same H1 H2) E) : Says X (n + 1) [] H (.ref a) t := by
  have turn : ∀ {A : Around} {g : List Code} {pins : List (Addr × Obj)} {s : Shared} {σ : L2.St} {H1 : Hp}, Low X n g A → Inv X pins σ H1 s → Same H H1 →
      wpAny (model X.prog X.w) A (call (.ref f) [.ref a]) (fun r s' => ∃ tk, r = .str t tk ∧ ∃ H2, Inv X pins σ H2 s' ∧ Same H1 H2) X.xe s := fun lo I e =>
    wpAny_mono (own_run F hb hx lo I (hsp _ e)) (fun r s' q => by
      obtain ⟨v, H2, I2, r2, ev, e2⟩ := q
      subst ev
      obtain ⟨tk, rfl⟩ := r2
      exact ⟨tk, rfl, H2, I2, e2⟩) fun _ _ q => q
  refine ⟨fun A g base pins s σ H1 u lo cl I e ru hz => ?_, fun A g pins s σ H1 u lo cl I e ru hz => ?_⟩
  · cases ru
    obtain ⟨mA, O, _⟩ := ins_get I.hok (e _ _ ha)
    obtain ⟨od, J, _⟩ := O.look
    have hu := lo.rm.units0
    refine wpAny_pyReprUnder_ref (by omega) ?_
    unfold pyReprObjUnder pyReprObjBy
    refine wpAny_bind (wpAny_cRoomFor hu (wpAny_bind (wpAny_bind (J.type.here ((PySem.W.looks_findIn I.kIn hs).here ?_)))))
    show wpAny _ _ (if (some (Value.ref f)).isNone = true then _ else _) _ _ _
    rw [if_neg (by simp)]
    refine wpAny_bind (own_by I.kIn J hs hf ?_)
    show wpAny _ _ (call (.ref f) [.ref a]) _ _ _
    refine wpAny_mono (turn (lo.mono (Nat.le_succ n)) I e) (fun r s2 q => ?_) fun _ _ q => q
    obtain ⟨tk, rfl, q⟩ := q
    exact wpAny_bind (wpAny_isInstance (typeIs_str _ _ _) isSubtype_str_str (wpAny_pure ⟨t, tk, rfl, rfl, q⟩))
  · cases ru
    obtain ⟨mA, O, _⟩ := ins_get I.hok (e _ _ ha)
    obtain ⟨od, J, _⟩ := O.look
    obtain ⟨m, hF⟩ := I.fr
    refine PySem.W.repr_K lo.in1.rm.units0 hF I.ok.mod.kin J hs hf (wpAny_mono (turn lo.in1 I e) (fun r s2 q => ?_) fun _ _ q => q)
    obtain ⟨tk, rfl, q⟩ := q
    exact ⟨⟨tk, rfl⟩, q⟩
end

/-! ### repr(x) in a body whose guards are known to be none -/
section
variable {X : Cx}
def rRepr (X : Cx) (n : Nat) : List V → Hp → VK → Prop := fun vs H Q => ∃ (v : V) (t : Str) (as : List Addr), vs = [v] ∧ Says X n as H v t ∧ t.length ≤ sizeLine ∧ ∀ H2, Same H H2 → Q (.str t) H2
theorem cr_repr {n : Nat} (hr : Room n X.A) (hg : X.A.guards = some []) : CallR X (.builtin "repr") (rRepr X n) := by
  intro pins s σ H vs us Q I r h
  obtain ⟨v, t, as, rfl, hv, hz, q⟩ := h
  obtain ⟨u, rfl, ru⟩ := vals1 r
  refine wpAny_mono (hv.top X.A [] pins s σ H u ⟨hr, rfl, hg⟩ (fun b _ => Clear.nil b) I (Same.refl H) ru hz) (fun w s2 k => ?_) fun _ _ k => k
  obtain ⟨⟨tk, rfl⟩, H2, I2, e2⟩ := k
  exact ⟨.str t, H2, I2, ⟨tk, rfl⟩, q H2 e2⟩
/-- repr(True), repr(False): whatever guards run -/
theorem cr_reprB : CallR X (.builtin "repr") (fun vs H Q => ∃ b : Bool, vs = [.bl b] ∧ Q (.str (if b then "True" else "False" : String)) H) := by
  intro pins s σ H vs us Q I r h
  obtain ⟨b, rfl, q⟩ := h
  obtain ⟨u, rfl, ru⟩ := vals1 r
  cases ru
  refine PySem.P.repr_of_bool ⟨.str (if b then "True" else "False" : String), H, I.tok _, ⟨s.toks, ?_⟩, q⟩
  cases b <;> rfl
end
end Rp
/-! defs that know that no guard runs around them, and the law's end for such a def -/
namespace Rp
open PySem PySem.Spec PyProof.Rows L2
/-- the promise of a def, where no guard runs around the call -/
structure FnG (P : Program) (w : World) (K : PySem.W.Frag) (mg : Str → Option Value) (base : Heap) (CX : CXT) (k : Nat) (f : Addr) (fd : FuncData) (ps : List Str) (sp : Sp) : Prop where
  len : ∀ vs H Q E, sp vs H Q E → vs.length = ps.length
  go : ∀ (A : Around) (outer : List Env) (s : Shared) (H : Hp) (args : Args) (us : List Value) (vs : List V) (Q : VK) (E : XK), A.guards = some [] → Room k A →
    Env0 P w K mg base A outer s H → BindsTo s fd args (ps.zip us) → Vals vs us → sp vs H Q E → codeAny (model P w) A (.call (.ref f) args) (CR CX outer P w H s Q E) s
section
variable {P : Program} {w : World} {K : PySem.W.Frag} {mg : Str → Option Value} {base : Heap} {CX : CXT} {k : Nat} {f : Addr} {fd : FuncData} {ps : List Str} {sp : Sp}
theorem FnG.of (F : FnOk P w K mg base CX k f fd ps sp) : FnG P w K mg base CX k f fd ps sp := ⟨F.len, fun A outer s H args us vs Q E _ => F.run A outer s H args us vs Q E⟩
/-- a def by its body; the body may use that no guard runs -/
theorem fn_bodyG {name qual : Str} {params : Arguments} {body : List Stmt} {scope : Scope} {dV kV doc pm cdv ct oc : Value} {an od : Option Addr} {osl : Array (Option Value)} {N : List Str}
    (lk : K.lookup f = some ⟨oc, od, .func (PySem.W.fnOf name qual params body scope dV kV doc pm an cdv ct), osl⟩) (hcd : PySem.W.codeIn K cdv qual = true) (S : FnScope N ps scope) (len : ∀ vs H Q E, sp vs H Q E → vs.length = ps.length)
    (hbody : ∀ (A : Around) (outer : List Env) (s : Shared) (H : Hp) (vs : List V) (Q : VK) (E : XK), A.guards = some [] → Room k (A.deeper (envOfC qual scope s.heap.objs.size f cdv)) → sp vs H Q E →
      ∃ t, PSs (cxOf CX P w K mg base N qual scope f cdv A outer s H E) body t ∧ t { nx := fun _ H' => Q .non H', rt := Q } (start N vs) H) :
    FnG P w K mg base CX (k + 1) f (PySem.W.fnOf name qual params body scope dV kV doc pm an cdv ct) ps sp := by
  refine ⟨len, fun A outer s H args us vs Q E gd hr e0 hb rv hsp => ?_⟩
  have here : ∀ b o, base.get? b = some o → s.heap.get? b = some o := fun b o e => (e0.bs b o e).1
  have kx : K.In s.heap := e0.mod.kin.keeps here
  have lim : s.heap.NoLimit := e0.mod.nolimit.keeps here
  have kinds : ∀ y ∈ ps.zip us, scope.names.lookup y.1 = some .local ∨ (scope.names.lookup y.1 = some .cell ∧ ((cellsFrom (s.heap.objs.size + 1) scope.names []).lookup y.1).isSome = true) := by
    rintro ⟨n, v⟩ hy
    exact (S.par n (List.of_mem_zip hy).1).imp id fun q => ⟨q, PySem.W.cellsFrom_some _ _ _ (.inl q)⟩
  refine codeAny_call_function hr.depth (kx _ _ lk) rfl S.co S.gen rfl (PySem.W.codeRec_of kx hcd) (hb _ _ _ _ (wpAny_newFunctionEnv_cells S.kind kinds fun env he s1 ic => ?_))
  subst he
  refine ⟨lim.keeps ic.toInCall.keep, codeAny_func ?_⟩
  obtain ⟨t, ht, hq⟩ := hbody A outer s H vs Q E gd (hr.deeper _) hsp
  have I : L2.Inv (cxOf CX P w K mg base N qual scope f cdv A outer s H E) [] (start N vs) H s1 := inv_start S hr.hd e0 (len _ _ _ _ hsp) rv ic
  refine wpAny_mono (ht.run [] s1 (start N vs) H _ I hq) (fun fl s' hs => ?_) fun e s' hs => hs
  cases fl with
  | next =>
    obtain ⟨σ', H', J, q⟩ := hs
    exact ⟨V.non, H', J.os, J.bare, J.base, J.hok, (rfl : RelV .non Value.none), q⟩
  | ret u =>
    obtain ⟨v, σ', H', J, rv, q⟩ := hs
    exact ⟨v, H', J.os, J.bare, J.base, J.hok, rv, q⟩
  | brk => exact hs.elim fun _ z => z.elim fun _ z => z.2.elim
  | cont => exact hs.elim fun _ z => z.elim fun _ z => z.2.elim
theorem Fun_okG {x qual : Str} {st : Stmt} {N : List Str} (F : Fun K x qual st f fd) (S : FnScope N ps (defScope st)) (len : ∀ vs H Q E, sp vs H Q E → vs.length = ps.length)
    (body : ∀ (cdv : Value) (A : Around) (outer : List Env) (s : Shared) (H : Hp) (vs : List V) (Q : VK) (E : XK), A.guards = some [] →
      Room k (A.deeper (envOfC qual (defScope st) s.heap.objs.size f cdv)) → sp vs H Q E →
      ∃ t, PSs (cxOf CX P w K mg base N qual (defScope st) f cdv A outer s H E) (defBody st) t ∧ t { nx := fun _ H' => Q .non H', rt := Q } (start N vs) H) : FnG P w K mg base CX (k + 1) f fd ps sp := by
  obtain ⟨oc, od, kV, doc, pm, an, cdv, ct, osl, rfl, lk, hcd⟩ := F.ex
  exact fn_bodyG lk hcd S len fun A outer s H vs Q E gd hr hsp => body cdv A outer s H vs Q E gd hr hsp
theorem Fun_okG0 {x qual : Str} {st : Stmt} {N : List Str} (F : Fun K x qual st f fd) (S : FnScope N ps (defScope st)) (len : ∀ vs H Q E, sp vs H Q E → vs.length = ps.length)
    (body : ∀ (cdv : Value) (A : Around) (outer : List Env) (s : Shared) (H : Hp) (vs : List V) (Q : VK) (E : XK), A.guards = some [] →
      Room k (A.deeper (envOfC qual (defScope st) s.heap.objs.size f cdv)) → sp vs H Q E →
      ∃ t, PSs (cxOf CX0 P w K mg base N qual (defScope st) f cdv A outer s H E).nox (defBody st) t ∧ t { nx := fun _ H' => Q .non H', rt := Q } (start N vs) H) : FnG P w K mg base CX0 (k + 1) f fd ps sp :=
  Fun_okG F S len fun cdv A outer s H vs Q E gd hr hsp => let ⟨t, h, q⟩ := body cdv A outer s H vs Q E gd hr hsp; ⟨t, h.nox, q⟩
end

/-! ### the call of such a def -/
section
variable {X : Cx} {CX : CXT} {k : Nat} {f : Addr} {fd : FuncData} {ps : List Str} {sp : Sp} {dvs : List V} {ds : List Value} {E : XK} {x : Str} {p pos : Pos} {e : Expr} {es : List Expr} {t : TA}
theorem run_fnG {pins : List (Addr × Obj)} {σ : L2.St} {H : Hp} {s : Shared} {Q : VK} {us : List Value} {vs : List V} (F : FnG X.prog X.w X.K X.mg X.base CX k f fd ps sp) (hg : X.A.guards = some []) (hr : Room k X.A) (hb : Binds X.K fd ps ds) (hd : Vals dvs ds)
    (hx : Passes CX X E) (I : Inv X pins σ H s) (r : Vals vs us) (h : sp (vs ++ dvs) H Q E) : wpAny (model X.prog X.w) X.A (call (.ref f) us) (EP X pins σ Q) X.xe s := by
  have all := r.append hd
  have hl := all.length.symm.trans (F.len _ _ _ _ h)
  refine wpAny_call (codeAny_mono (F.go X.A X.stack s H ⟨us, []⟩ (us ++ ds) (vs ++ dvs) Q E hg hr I.env0 (hb s us I.kIn hl) all h) fun r s' hq => ?_)
  match r, hq with
  | .error e, hq => exact hx pins σ H s e s' I hq
  | .ok (.ret u), hq => exact I.after hq
theorem pe_callG (F : FnG X.prog X.w X.K X.mg X.base CX k f fd ps sp) (hgd : X.A.guards = some []) (hr : Room k X.A) (hg : Gl X x) (hm : X.mg x = some (.ref f)) (hk : PySem.W.keepIn X.K (.ref f) = true) (hb : Binds X.K fd ps ds) (hd : Vals dvs ds) (hx : Passes CX X E)
    (ha : PA X (e :: es) t) (hdb : (x == ("__debug__" : Str)) = false := by decide) (he : starEach (e :: es) X.env = (false, eval e X.env) :: starEach es X.env := by rfl) (hpl : (backTo pos (starEach es X.env)).any (·.1) = false := by rfl) :
    PE X (.Call (.Name x p) (e :: es) [] pos) (tCall sp dvs E t) :=
  ⟨fun pins s σ H Q I h => wpAny_Call_Name_kw (ld_glob I hg hm (PySem.W.callWith_K (h₀ := X.base) I.ok.mod.kin hk (thn (ha.run pos pins s σ H _ I h) fun us s1 ⟨vs, H1, I1, r, q⟩ => ⟨I1.kIn, run_fnG F hgd hr hb hd hx I1 r q⟩) he hpl) hdb)⟩
end

/-! ### the law's end -/
/-- what stands tracked at the law's entry: the script alone, or nothing -/
def atScript (a : Addr) (u : HO) : Hp := fun b => if b = a then some u else none
theorem law_atG {P : Program} {w : World} {K : PySem.W.Frag} {mg mb : Str → Option Value} {CX : CXT} {k : Nat} {fa a : Addr} {fd : FuncData} {x : Str} {sp : Sp} {s₁ : Shared} {vs : List Value} {ns : List Int}
    (KX : K.In s₁.heap) (hns : s₁.heap.Ns mainGlobals mg) (hb : s₁.heap.Ns builtinsNs mb) (hbb : ∀ x : Str, x ≠ "__name__" → mb x = bootBuiltins x) (hlim : s₁.heap.NoLimit) (hg : s₁.gens = #[])
    (ha : s₁.heap.get? a = some { cls := .type "list", data := .seq vs.toArray }) (hr : Room k callerA)
    (F : ∀ base : Heap, K.In base → base.Ns mainGlobals mg → FnG P w K mg base CX k fa fd [x] sp) (hbind : ∀ (s : Shared) (u : Value), BindsTo s fd ⟨[u], []⟩ [(x, u)])
    (hCX : ∀ H e s', CX [] H s₁ (fun _ _ _ => False) e s' → False) (H : Hp) (hA : ∀ b, H b ≠ none → b = a) (hF : ∀ u, H a = some u → ∃ o xs, u = .frz o (.lst xs)) (hok : HOk P w H s₁.heap) (hK : H a ≠ none → K.lookup a = none)
    (hsp : sp [.ref a] H (fun v _ => v = .bl true) fun _ _ _ => False) :
    codeAny (model P w) callerA (.call (.ref fa) ⟨[.ref a], []⟩) (fun r s' => r = .ok (.ret (.bool true)) ∧ OldK s₁.heap s'.heap ∧ s'.os = s₁.os ∧ AllBare s'.gens) s₁ := by
  have split : ∀ b u, H b = some u → b = a := fun b u e => hA b fun z => by rw [z] at e; cases e
  have dictless : ∀ {b : Addr} {o : Obj} {es : Array DictEntry} {ep : Nat}, s₁.heap.get? b = some o → o.data = .dict es ep → H b = none := fun {b o es ep} e d => by
    cases q : H b with
    | none => rfl
    | some u =>
      have z := split b u q
      subst z
      rw [ha] at e
      cases e
      cases (show Data.seq vs.toArray _ = Data.dict es ep from d)
  have names : ∀ {b : Addr} {m : Str → Option Value}, s₁.heap.Ns b m → (hidT s₁.heap H).Ns b m := fun {b m} h => by
    obtain ⟨o, es, ep, e, d, r⟩ := h
    exact ⟨o, es, ep, hidT_get e (dictless e d), d, r⟩
  have kb : K.In (hidT s₁.heap H) := fun b o e => hidT_get (KX b o e) (by
    cases q : H b with
    | none => rfl
    | some u =>
      have z := split b u q
      subst z
      rw [hK fun z => by rw [q] at z; cases z] at e
      cases e)
  have M : Mod K mg (hidT s₁.heap H) := by
    obtain ⟨mc, h1, h2⟩ := hlim
    exact ⟨kb, names hns, ⟨mb, names hb, hbb⟩, ⟨mc, names h1, h2⟩⟩
  have e0 : Env0 P w K mg (hidT s₁.heap H) callerA [] s₁ H :=
    { frames := rfl, mod := M, bs := fun b o e => of_hidT e, bsz := Nat.le_of_eq (hidT_size _ _), funs := trivial, frf := fun b hb => (by simp [frs] at hb), hok := hok, bare := .of_eq hg }
  refine codeAny_mono ((F _ kb (names hns)).go callerA [] s₁ H ⟨[.ref a], []⟩ [.ref a] [.ref a] _ _ rfl hr e0 (hbind s₁ (.ref a)) (.cons rfl .nil) hsp) fun r s' h => ?_
  match r, h with
  | .error e, h => exact (hCX H e s' h).elim
  | .ok (.ret u), ⟨v, H', os, bare, un, hok', rv, q⟩ =>
    have ev : v = .bl true := q
    subst ev
    have eu : u = Value.bool true := rv
    subst eu
    refine ⟨rfl, OldK.of_keep fun b o e => ?_, os, bare⟩
    cases z : H b with
    | none => exact un.keep b o e z (by simp [frs]) (by simp)
    | some u =>
      have eb := split b u z
      subst eb
      obtain ⟨ob, xs, eu⟩ := hF u z
      subst eu
      obtain ⟨e1, _⟩ := hok b _ z
      obtain ⟨e2, _⟩ := hok' b _ (un.frzs b ob _ z)
      rw [e] at e1
      cases e1
      exact e2
theorem law_callG {P : Program} {w : World} {K : PySem.W.Frag} {mg mb : Str → Option Value} {CX : CXT} {k : Nat} {fa a : Addr} {fd : FuncData} {x : Str} {sp : Sp} {s₁ : Shared} {vs : List Value} {ns : List Int}
    (KX : K.In s₁.heap) (hns : s₁.heap.Ns mainGlobals mg) (hb : s₁.heap.Ns builtinsNs mb) (hbb : ∀ x : Str, x ≠ "__name__" → mb x = bootBuiltins x) (hlim : s₁.heap.NoLimit) (hg : s₁.gens = #[])
    (ha : s₁.heap.get? a = some { cls := .type "list", data := .seq vs.toArray }) (hi : IntsAre vs ns) (hl : ns.length ≤ sizeLine) (hr : Room k callerA)
    (F : ∀ base : Heap, K.In base → base.Ns mainGlobals mg → FnG P w K mg base CX k fa fd [x] sp) (hbind : ∀ (s : Shared) (u : Value), BindsTo s fd ⟨[u], []⟩ [(x, u)])
    (hsp : ∀ H : Hp, Only H → SqL K H a (ns.map V.int) → sp [.ref a] H (fun v _ => v = .bl true) fun _ _ _ => False)
    (hCX : ∀ H e s', CX [] H s₁ (fun _ _ _ => False) e s' → False) :
    codeAny (model P w) callerA (.call (.ref fa) ⟨[.ref a], []⟩) (fun r s' => r = .ok (.ret (.bool true)) ∧ OldK s₁.heap s'.heap ∧ s'.os = s₁.os ∧ AllBare s'.gens) s₁ := by
  have rv := vals_ints hi
  have lenV := hi.length
  have main := law_atG (ns := ns) KX hns hb hbb hlim hg ha hr F hbind hCX
  cases hk : K.lookup a with
  | some o =>
    have e := KX a o hk
    rw [ha] at e
    cases e
    have nothing : Only fun _ => none := fun b => .inl rfl
    exact main (fun _ => none) (fun b z => absurd rfl z) (fun u z => by cases z) (fun b u z => by cases z) (fun z => absurd rfl z)
      (hsp _ nothing (.inr ⟨_, vs.toArray, _, hk, rfl, rfl, rfl, by rw [List.size_toArray, lenV]; exact hl, by simpa using rv⟩))
  | none =>
    have at_ : atScript a (.frz { cls := .type "list", data := .seq vs.toArray } (.lst (ns.map V.int))) a = some (.frz { cls := .type "list", data := .seq vs.toArray } (.lst (ns.map V.int))) := if_pos rfl
    have off : ∀ b, b ≠ a → atScript a (.frz { cls := .type "list", data := .seq vs.toArray } (.lst (ns.map V.int))) b = none := fun b hb => if_neg hb
    refine main (atScript a (.frz { cls := .type "list", data := .seq vs.toArray } (.lst (ns.map V.int)))) (fun b z => Classical.byContradiction fun hb => z (off b hb)) (fun u z => ?_) (fun b u z => ?_) (fun _ => hk)
      (hsp _ (fun b => ?_) (.inl (.inr ⟨_, at_⟩)))
    · rw [at_] at z
      cases z
      exact ⟨_, _, rfl⟩
    · by_cases hb : b = a
      · subst hb
        rw [at_] at z
        cases z
        exact ⟨ha, by rw [List.length_map]; exact hl, vs, _, rv, ha⟩
      · rw [off b hb] at z
        cases z
    · by_cases hb : b = a
      · subst hb
        exact .inr ⟨_, _, at_⟩
      · exact .inl (off b hb)
/-- the goal that k_head leaves, from the law's promise where no guard runs -/
theorem walk_ofG {l : PySem.W.OpenLaw} {n k : Nat} {q : Program} {loose : List Str} {XP : (Str → Option Value) → Heap → Prop} {YP : World → Heap → Prop} {d : DefRec} {K : Params → PySem.W.Frag} {CX : World → CXT} {sp : World → Sp} {x : Str}
    (hn : l.most = some n) (hn2 : n ≤ sizeLine) (hdf : d.params.defaults = []) (hr : Room k callerA) (hY : ∀ (w : World) (h : Heap), YP w h → (K w.params).In h)
    (F : ∀ (w : World) (mg : Str → Option Value) (fa : Addr) (h : Heap), (K w.params).In h → h.Ns mainGlobals mg → mg d.name = some (.ref fa) →
      ∃ fd : FuncData, (∀ (s : Shared) (u : Value), BindsTo s fd ⟨[u], []⟩ [(x, u)]) ∧ ∀ base : Heap, (K w.params).In base → base.Ns mainGlobals mg → FnG l.prog w (K w.params) mg base (CX w) k fa fd [x] (sp w))
    (hsp : ∀ (w : World) (H : Hp) (a : Addr) (ns : List Int), ns.length ≤ n → Only H → SqL (K w.params) H a (ns.map V.int) → sp w [.ref a] H (fun v _ => v = .bl true) fun _ _ _ => False)
    (hCX : ∀ (w : World) (H : Hp) (s : Shared) (e : Value) (s' : Shared), CX w [] H s (fun _ _ _ => False) e s' → False) :
    PySem.W.WalkO q loose XP YP l.row.toRowW d [] (fun f vs => PySem.call f vs) :=
  Att.attach_call hn hdf fun w s₀ s₁ mg mb fa o pm cd doc a vs ns G Y ho hd hcd hmg hobj hints hlen hg =>
    let ⟨_, hb, hF⟩ := F w mg fa _ (hY w _ Y) G.T.g hmg
    law_callG (hY w _ Y) G.T.g G.T.b G.T.builtins G.T.nolimit hg hobj hints (Nat.le_trans hlen hn2) hr hF hb (fun H hO hS => hsp w H a ns hlen hO hS) fun H e s' => hCX w H s₁ e s'
end Rp
/-! sep.join(reversed(xs)), xs a list of texts -/
namespace Rp
open PySem PySem.Spec PyProof.Rows L2
section
variable {prog : Program} {w : World} {A : Around} {E : Value → Shared → Prop} {s : Shared} {x : Str} {t : Tok} {Q : Value → Shared → Prop}
theorem join_rev {it l : Addr} {items : Array Value} {ys : List Str} (hh : A.handled = none) (hit : s.heap.IsRevIter it l ((items.size : Int) - 1)) (hl : s.heap.IsList l items) (hne : l ≠ it) (hn : items.size ≤ sizeLine)
    (hi : StrsAre items.toList.reverse ys) (hok : (ys.map (·.length)).sum + ys.length * x.length ≤ 16777216)
    (h : ∀ (h' : Heap) (t' k : Tok), (∀ b o, b ≠ it → s.heap.get? b = some o → h'.get? b = some o) → Q (.str (Txt.join x ys) t') { s with heap := h', toks := k }) :
    wpAny (model prog w) A (call (.builtin "str.join") [.str x t, .ref it]) Q E s := by
  refine wpAny_call (codeAny_call_builtin F.slot_str_join.plain F.entry_str_join (F.slot_str_join.check _ _ _ _ _ _ _ _ (typeIs_str _ _ _) (F.args_str_join_2 _ _) ?_))
  have hT : s.TypeIs (.ref it) "list_reverseiterator" := Heap.IsRevIter.typeIs hit
  have hh1 : A.in1.handled = none := hh
  rw [join_tree_other]
  refine wpAny_bind (wpAny_typeOf hT ?_)
  show wpAny _ A.in1 ((pyIter (.ref it)).tryCatch _ >>= fun j => collect j >>= fun vs => joinTail x vs) _ _ s
  refine wpAny_bind (wpAny_tryCatch (wpAny_pyIter_revIter hit (wpAny_bind (RT.collect_rev (A := A.in1) hh1 hit hl hne hn fun h' tk acc hk hacc => ?_))))
  have el : acc.toList = items.toList.reverse := by
    have hs : items.size = items.toList.length := by simp
    have ha : acc.toList.length = items.toList.length := by rw [Array.length_toList, hacc.1, hs]
    refine List.ext_getElem? fun j => ?_
    by_cases hj : j < items.toList.length
    · have hja : j < acc.toList.length := by omega
      have e1 : acc.toList[j]? = some acc.toList[j] := List.getElem?_eq_getElem hja
      have e2 := hacc.2 j acc.toList[j] (by rw [← Array.getElem?_toList]; exact e1)
      rw [e1, List.getElem?_reverse hj, ← e2, hs] <;> simp
    · rw [List.getElem?_eq_none (by omega), List.getElem?_eq_none (by rw [List.length_reverse]; omega)]
  rw [el]
  obtain ⟨q, hv, ht⟩ := strsAre_values hi
  rw [hv]
  subst ht
  have ok := joinOk_of hok
  have ok' := ok
  unfold JoinOk at ok'
  rw [Bool.not_eq_true'] at ok'
  have g : Gives (joinTail x (strValues q)) (joinMade x q) := by
    have g0 := gives_joinTail x q ok'
    rcases q with _ | ⟨c, _ | ⟨d, r⟩⟩ <;> exact g0
  exact g prog w A (wants Q E) { s with heap := h', toks := tk } (post_join q ⟨joinFit_length ok', fun t' k => h h' t' k hk⟩)
end

section
variable {X : Cx} {o e : Expr} {to te : TE} {p2 apos pos pos2 : Pos}
/-- o.join(reversed(e)) -/
def tJoinRev (K : PySem.W.Frag) (to te : TE) : TE := fun σ H Q => to σ H fun v H1 => ∃ sep : Str, v = .str sep ∧ te σ H1 fun u H2 => ∃ (a : Addr) (ys : List Str), u = .ref a ∧ SqL K H2 a (ys.map V.str) ∧
  (ys.map (·.length)).sum + ys.length * sep.length ≤ 16777216 ∧ Q (.str (Txt.join sep ys.reverse)) H2
theorem pe_joinRev (hc : X.calm = true) (hg : Gl X "reversed") (hm : X.mg "reversed" = none) (ho : PE X o to) (he : PE X e te)
    (hs : starEach [e] X.env = (false, eval e X.env) :: starEach [] X.env := by rfl)
    (hs2 : starEach [.Call (.Name "reversed" p2) [e] [] pos2] X.env = [(false, eval (.Call (.Name "reversed" p2) [e] [] pos2) X.env)] := by rfl)
    (hbase : attributeBase o "join" X.env (eval o X.env) = eval o X.env := by rfl) (hline : (apos.endLine == pos.line) = true := by rfl) :
    PE X (.Call (.Attribute o "join" apos) [.Call (.Name "reversed" p2) [e] [] pos2] [] pos) (tJoinRev X.K to te) := by
  refine ⟨fun pins s σ H Q I h => ?_⟩
  refine PySem.Call_method1 hbase hs2 hline (thn (ho.run pins s σ H _ I h) fun v s1 k => ?_)
  obtain ⟨xv, H1, I1, r1, sep, rfl, q1⟩ := k
  obtain ⟨t, rfl⟩ := r1
  refine ⟨"str", _, F.plainAttrs_str, F.slot_str_join, F.type_str_join, typeIs_str _ _ _, (fun _ e => nomatch e), Calls.callWith_builtin rfl (Calls.evalArgs_plain (Calls.spliced_cons ?_))⟩
  refine Call_ (ld_blt I1 hg hm PyProof.Rows.boot_reversed (PyProof.Rows.callWith_type1 (args_cons (thn (he.run pins s1 σ H1 _ I1 q1) fun u s2 k => args_nil ?_) hs) hs rfl))
  obtain ⟨yv, H2, I2, r2, a, ys, rfl, hq, hz, q2⟩ := k
  obtain rfl : u = Value.ref a := r2
  obtain ⟨its, rv, pl, hsz⟩ := I2.list hq
  refine call_reversed_list pl.isList (Calls.spliced_nil ?_)
  have hl := pl.isList
  obtain ⟨ol, hol, _⟩ := id hl
  have grow : ∀ b o, s2.heap.get? b = some o → (s2.heap.push (revObj a ((its.toArray.size : Int) - 1))).get? b = some o := fun b o e => Heap.get?_push_of_some _ e
  have I3 : L2.Inv X pins σ H2 { s2 with heap := s2.heap.push (revObj a ((its.toArray.size : Int) - 1)) } := I2.kept (t' := s2.toks) grow
  obtain ⟨f0, f1, f2, f3, f4, f5⟩ := I2.fpOk (H' := H2) (b := s2.heap.objs.size) (Nat.le_refl _) (I2.hok.fresh (Nat.le_refl _))
  have st := strs_of_vals (us := its.reverse) (ys := ys.reverse) (by rw [List.map_reverse]; exact rv.reverse)
  refine join_rev (s := { s2 with heap := s2.heap.push (revObj a ((its.toArray.size : Int) - 1)) }) (items := its.toArray) (I1.ok.hd hc) ⟨_, Heap.get?_push_size _ rfl, rfl, rfl⟩ (hl.push _) (Nat.ne_of_lt (Heap.lt_size hol)) (by rw [List.size_toArray, ← rv.length]; exact hsz)
    (by simpa using st) (by simpa [List.sum_reverse] using hz) fun h' t' k hk => ?_
  exact ⟨.str _, H2, I3.turned (t' := k) (fun b o hb e => hk b o hb e) f0 f1 f3 f4 f5, ⟨t', rfl⟩, q2⟩
end
end Rp
/-! repr of tuples, by the abstract heap -/
namespace Rp
open PySem PySem.Spec PyProof.Rows L2
section
variable {X : Cx} {n : Nat} {as : List Addr} {H : Hp} {a : Addr} {xs : List V} {ts : List Str} {base : Nat} {g : List Code} {A : Around} {pins : List (Addr × Obj)} {σ : L2.St}
theorem tup_fold (lo : Low X n g A) (hcl : ∀ b ∈ as, Clear g b) {Q : (Array Str × Nat) → Shared → Prop} : ∀ (xs : List V) (us : List Value) (ts : List Str) (acc : Array Str) (m : Nat) (s : Shared) (H1 : Hp), Vals xs us → ts.length = xs.length →
    (∀ (i : Nat) (x : V), xs[i]? = some x → ∃ t, ts[i]? = some t ∧ Says X n as H x t) → m + piled ts ≤ sizeLine → Inv X pins σ H1 s → Same H H1 →
    (∀ s2 H2, Inv X pins σ H2 s2 → Same H1 H2 → Q ⟨acc ++ ts.toArray, m + piled ts⟩ s2) → wpAny (model X.prog X.w) A (forIn us (⟨acc, m⟩ : (Array Str × Nat)) tupBody) Q X.xe s := by
  intro xs
  induction xs with
  | nil =>
    intro us ts acc m s H1 rv hl _ _ I e h
    cases rv
    have : ts = [] := List.length_eq_zero_iff.mp hl
    subst this
    have q := h s H1 I (Same.refl H1)
    rw [List.forIn_nil]
    exact wpAny_pure (by simpa [piled] using q)
  | cons x xs ih =>
    intro us ts acc m s H1 rv hl hs hz I e h
    cases rv with
    | cons r1 r2 =>
      rename_i u us
      match ts, hl, hs, hz, h with
      | t :: ts, hl, hs, hz, h =>
        obtain ⟨t', ht, hsay⟩ := hs 0 x rfl
        cases ht
        rw [piled_cons] at hz
        rw [List.forIn_cons]
        refine wpAny_bind (wpAny_bind (wpAny_mono (hsay.und A g (m + 1) pins s σ H1 u lo hcl I e r1 (by omega)) (fun r s2 k => ?_) fun _ _ k => k))
        obtain ⟨er, H2, I2, e2⟩ := k
        subst er
        refine wpAny_pure (ih us ts (acc.push r) (m + (r.length + 2)) s2 H2 r2 (by simpa using hl) (fun i y hy => hs (i + 1) y hy) (by omega) I2 (e.trans e2) fun s3 H3 I3 e3 => ?_)
        have q := h s3 H3 I3 (e2.trans e3)
        have eq : m + piled (r :: ts) = m + (r.length + 2) + piled ts := by rw [piled_cons]; omega
        rw [eq] at q
        simpa using q
theorem tup_body {id : String} {rest : List Value} (lo : Low X (n + 1) g A) (hcl : ∀ b ∈ a :: as, Clear g b) (hna : a ∉ as) (hit : ∀ (i : Nat) (x : V), xs[i]? = some x → ∃ t, ts[i]? = some t ∧ Says X n as H x t) (hl : ts.length = xs.length)
    (hsz : base + (tupleText ts).length ≤ sizeLine) (hq : SqT X.K H a xs) {s : Shared} {H1 : Hp} (I : Inv X pins σ H1 s) (hs : Same H H1) {R : Result → Shared → Prop}
    (hg : (Code.builtin id ⟨.ref a :: rest, []⟩).guards = [Code.builtin id ⟨.ref a :: rest, []⟩]) (hw : (Code.builtin id ⟨.ref a :: rest, []⟩).weight = 1) (hu : (Code.builtin id ⟨.ref a :: rest, []⟩).cUnits = 1) (he : (Code.builtin id ⟨.ref a :: rest, []⟩).envs = [])
    (fin : ∀ s H2 u, Inv X pins σ H2 s → Same H1 H2 → R (.ok (.ret (.str (tupleText ts) u))) s) (bad : ∀ e s, X.xe e s → R (.error e) s) :
    wpOwn (model X.prog X.w) A (.builtin id ⟨.ref a :: rest, []⟩) (Builtin.tupleReprAt base ⟨[.ref a], []⟩) (fun fin s' => match fin with | .done f => R (.ok f) s' | .again c' => c'.quiet = true ∧ codeAny (model X.prog X.w) A c' R s') (fun e s' => R (.error e) s') s := by
  have hsq : SqT X.K H1 a xs := hq.elim (fun h => .inl (h.elim (fun h => .inl (hs _ _ h)) fun ⟨o, h⟩ => .inr ⟨o, hs _ _ h⟩)) .inr
  obtain ⟨its, rv, ⟨o, ho, hc, na, hd⟩, _⟩ := I.tuple hsq
  have hp := piled_le_tupleText ts
  have hsz0 : (tupleText ts).length ≤ sizeLine := by omega
  have hlen : ts.length = its.toArray.size := by rw [hl, rv.length]; simp
  rw [tuple_repr_tree, tupleReprUnderWay_eq]
  refine wpOwn_bind (wpOwn_stackTailAny lo.gd (tupGuardF_off _) (tupGuardF_pos _) ?_)
  rw [show (g.any fun c => tupGuardF (.ref a) (c, default)) = false from List.any_eq_false.mpr fun c hc => by
    rw [tupGuardF_of_clear (hcl a List.mem_cons_self) c hc]
    exact Bool.false_ne_true]
  refine wpOwn_of_wpAny ?_
  show wpAny _ _ (tupleReprRest base (.ref a)) _ _ s
  unfold tupleReprRest Builtin.Tuple.tupleItemsOf
  refine wpAny_bind (wpAny_bind (wpAny_seqItems ho hd (wpAny_pure ?_)))
  rw [← Array.forIn_toList]
  refine wpAny_bind (wpAny_mono (tup_fold (lo.guard hg hw hu he) (fun b hb => (hcl b (List.mem_cons_of_mem _ hb)).cons (a := a) fun e => hna (e ▸ hb)) xs its ts #[] base s H1 rv hl hit (by omega) I hs
    (Q := fun r s2 => r = ⟨#[] ++ ts.toArray, base + piled ts⟩ ∧ ∃ H2, Inv X pins σ H2 s2 ∧ Same H1 H2) fun s2 H2 I2 e2 => ⟨rfl, H2, I2, e2⟩) (fun r s2 k => ?_) fun e s2 k => bad e s2 k)
  obtain ⟨er, H2, I2, e2⟩ := k
  subst er
  refine wpAny_bind (wpAny_mkStr (wpAny_pure ?_) (by simpa [tupleText, hlen] using hsz0))
  have h1 := fin _ H2 s2.toks (I2.tok (s2.toks + 1)) e2
  simpa [tupleText, hlen] using h1
theorem says_tup (hq : SqT X.K H a xs) (hna : a ∉ as) (hl : ts.length = xs.length) (hit : ∀ (i : Nat) (x : V), xs[i]? = some x → ∃ t, ts[i]? = some t ∧ Says X n as H x t) : Says X (n + 2) (a :: as) H (.ref a) (tupleText ts) := by
  refine ⟨fun A g base pins s σ H1 u lo cl I hs ru hz => ?_, fun A g pins s σ H1 u lo cl I hs ru hz => ?_⟩
  all_goals
    cases ru
    have hsq : SqT X.K H1 a xs := hq.elim (fun h => .inl (h.elim (fun h => .inl (hs _ _ h)) fun ⟨o, h⟩ => .inr ⟨o, hs _ _ h⟩)) .inr
    obtain ⟨its, rv, ⟨o, ho, hc, na, hd⟩, _⟩ := I.tuple hsq
  · refine wpAny_pyReprUnder_ref (by omega) (wpAny_pyReprObjUnder_twin (twin := "tuple.__repr__.under") ⟨o, ho, hc⟩ PySem.F.slot_tuple_repr rfl lo.rm.units0
      (call_twin_own (PySem.F.quiet_tuple_repr_under _) PySem.F.entry_tuple_repr_under PySem.F.check_tuple_repr_under ⟨o, ho, hc⟩ PySem.F.slot_tuple_repr (PySem.F.args_tuple_repr_1 _)
        (tup_body (R := callEnd _ _) (lo.mono (by omega)) cl hna hit hl hz hq I hs (by show (if Code.isGuard _ then _ else _) = _; rw [isGuard_tuple_repr_under]; rfl) (by simp only [Code.weight, isGuard_tuple_repr_under]; rfl) (by rfl) (by first | rfl | simp [Code.envs, Code.isFrame])
          (fun s2 H2 tk I2 e2 => ⟨⟨_, _, rfl⟩, _, _, rfl, rfl, H2, I2, e2⟩) fun e s2 he => he)))
  · have h1 := lo.rm.units
    refine call_repr_slot (by omega) ⟨o, ho, hc⟩ PySem.F.slot_tuple_repr (wpAny_call (codeAny_call_builtin_own (Code.quiet_builtin _ (by decide +kernel)) PySem.F.entry_tuple_repr (PySem.F.slot_tuple_repr.check _ _ _ _ _ _ _ _ ⟨o, ho, hc⟩ (PySem.F.args_tuple_repr_1 _)
      (tup_body (A := A.in1) (base := 0) (R := callEnd _ _) lo.in1 cl hna hit hl (by omega) hq I hs (by show (if Code.isGuard _ then _ else _) = _; rw [isGuard_tuple_repr]; rfl) (by simp only [Code.weight, isGuard_tuple_repr]; rfl) (by rfl) (by first | rfl | simp [Code.envs, Code.isFrame])
        (fun s2 H2 tk I2 e2 => ⟨_, _, rfl, ⟨_, rfl⟩, H2, I2, e2⟩) fun e s2 he => he))))
end
end Rp
/-! a caught error: isinstance of it, a def that is handed it, its fields; a method that may raise; count of truths -/
namespace Rp
open PySem PySem.Spec PyProof.Rows L2
/-- the dict of an exception that is looked at stands tracked, or there is none -/
def HasD (H : Hp) (d : Option Addr) : Prop := d = none ∨ ∃ dx fs, d = some dx ∧ H dx = some (.xd fs)
theorem exc_inst {X : Cx} {pins : List (Addr × Obj)} {σ : L2.St} {H : Hp} {s : Shared} {a D : Addr} {oe : Obj} {d : Option Addr} (I : Inv X pins σ H s) (hp : (a, oe) ∈ X.pn) (hz : Zc (.ref D) d oe) (hf : ∃ vs, oe.data = .fields vs) (hd : HasD H d) :
    ∃ od, PySem.W.InstAt s.heap a oe D od := by
  obtain ⟨hget, _⟩ := I.pin (a, oe) (List.mem_append_left _ hp)
  obtain ⟨vs, hv⟩ := hf
  rcases hd with rfl | ⟨dx, fs, rfl, hx⟩
  · refine ⟨none, ?_⟩
    obtain ⟨oc, od, oda, osl⟩ := oe
    obtain ⟨h1, h2⟩ := hz
    dsimp only at h1 h2 hv
    subst h1 h2 hv
    exact ⟨hget, rfl, rfl, trivial⟩
  · have hx : ObjOk X.prog X.w H s.heap dx (.xd fs) := I.hok dx _ hx
    obtain ⟨mA, hns, hr⟩ := hx
    obtain ⟨od, ho, hl⟩ := lookIn_ns hns
    exact ⟨some od, hget, hz.1, by unfold PySem.W.notCls; rw [hv] <;> rfl, by rw [hz.2]; exact ho⟩
/-- isinstance(e, c), e the error at a -/
def rIsX (K : PySem.W.Frag) (a : Addr) (cls : Value) (d : Option Addr) : List V → Hp → VK → Prop := fun xs H Q => ∃ (D : Addr) (c : V) (cv : Value) (b : Bool), xs = [.ref a, c] ∧ cls = .ref D ∧ ExcC K D ∧ ClsV c cv ∧ HasD H d ∧ PySem.W.kitOne K (.ref D) cv = some b ∧ Q (.bl b) H
/-- isinstance(e, (c1, c2, ..)) -/
def rIsXT (K : PySem.W.Frag) (a : Addr) (cls : Value) (d : Option Addr) : List V → Hp → VK → Prop := fun xs H Q => ∃ (D tp : Addr) (cs : List V) (us : List Value) (b : Bool), xs = [.ref a, .ref tp] ∧ cls = .ref D ∧ ExcC K D ∧ H tp = some (.tup cs) ∧ Paired ClsV cs us ∧ HasD H d ∧ PySem.W.kitAny K (.ref D) us = some b ∧ Q (.bl b) H
section
variable {X : Cx} {a : Addr} {oe : Obj} {cls : Value} {d : Option Addr}
theorem call_isX (hp : (a, oe) ∈ X.pn) (hz : Zc cls d oe) (hf : ∃ vs, oe.data = .fields vs) : CallR X (.builtin "isinstance") (rIsX X.K a cls d) := by
  intro pins s σ H xs us Q I r h
  obtain ⟨D, c, cv, b, rfl, rfl, C, k, hd, e, q⟩ := h
  obtain ⟨u1, u2, rfl, r1, r2⟩ := vals2 r
  have e2 := k.eq r2
  subst e2
  cases r1
  obtain ⟨od, J⟩ := exc_inst I hp hz hf hd
  have hcl : (PySem.W.clsIn X.K D).isSome = true := by
    obtain ⟨cd, hc, _⟩ := PySem.W.any_some C.hd
    rw [hc]; rfl
  exact PySem.W.kia_one (PySem.W.kitx_exc (ox := oe) (od := od) hcl C.hg C.hk C.hs C.ha C.hn C.ht C.hm) I.kIn J e (fun z => nomatch z) fun tk => ⟨.bl b, H, I.tok tk, rfl, q⟩
theorem call_isXT (hp : (a, oe) ∈ X.pn) (hz : Zc cls d oe) (hf : ∃ vs, oe.data = .fields vs) : CallR X (.builtin "isinstance") (rIsXT X.K a cls d) := by
  intro pins s σ H xs us Q I r h
  obtain ⟨D, tp, cs, ws, b, rfl, rfl, C, hT, k, hd, e, q⟩ := h
  obtain ⟨u1, u2, rfl, r1, r2⟩ := vals2 r
  cases r1
  cases (show u2 = Value.ref tp from r2)
  obtain ⟨od, J⟩ := exc_inst I hp hz hf hd
  have hcl : (PySem.W.clsIn X.K D).isSome = true := by
    obtain ⟨cd, hc, _⟩ := PySem.W.any_some C.hd
    rw [hc]; rfl
  obtain ⟨_, its, rv, o, h1, h2, n, h3⟩ := (show ObjOk X.prog X.w H s.heap tp (.tup cs) from I.hok tp _ hT)
  have e3 := ClsV.all k rv
  subst e3
  obtain ⟨oc, oda, dt, sl⟩ := o
  simp only at h2 h3
  subst h2 h3
  exact PySem.W.kia_tup (PySem.W.kitx_exc (ox := oe) (od := od) hcl C.hg C.hk C.hs C.ha C.hn C.ht C.hm) I.kIn J h1 e (fun z => nomatch z) fun tk => ⟨.bl b, H, I.tok tk, rfl, q⟩
end

/-! ### a def that is handed the error -/
/-- what it promises: a the error, cls its class, d its dict -/
abbrev SpE := Addr → Value → Option Addr → Sp
structure FnE (P : Program) (w : World) (K : PySem.W.Frag) (mg : Str → Option Value) (base : Heap) (CX : CXT) (k : Nat) (f : Addr) (fd : FuncData) (ps : List Str) (sp : SpE) : Prop where
  len : ∀ a cls d vs H Q E, sp a cls d vs H Q E → vs.length = ps.length
  run : ∀ (A : Around) (outer : List Env) (s : Shared) (H : Hp) (args : Args) (us : List Value) (vs : List V) (Q : VK) (E : XK) (p : Addr × Obj) (cls : Value) (d : Option Addr), L2H.RoomH k A → L2H.PinOk outer H s p → Zc cls d p.2 → (∃ vs, p.2.data = .fields vs) →
    Env0 P w K mg base A outer s H → BindsTo s fd args (ps.zip us) → Vals vs us → sp p.1 cls d vs H Q E → codeAny (model P w) A (.call (.ref f) args) (CR CX outer P w H s Q E) s
section
variable {P : Program} {w : World} {K : PySem.W.Frag} {mg : Str → Option Value} {base : Heap} {CX : CXT} {k : Nat} {f : Addr} {fd : FuncData} {ps : List Str} {sp : SpE}
theorem fn_ofE {name qual : Str} {params : Arguments} {body : List Stmt} {scope : Scope} {dV kV doc pm cdv ct oc : Value} {an od : Option Addr}
    {osl : Array (Option Value)} {N : List Str} (lk : K.lookup f = some ⟨oc, od, .func (PySem.W.fnOf name qual params body scope dV kV doc pm an cdv ct), osl⟩) (hcd : PySem.W.codeIn K cdv qual = true) (S : FnScope N ps scope)
    (len : ∀ a cls d vs H Q E, sp a cls d vs H Q E → vs.length = ps.length)
    (hbody : ∀ (A : Around) (outer : List Env) (s : Shared) (H : Hp) (vs : List V) (Q : VK) (E : XK) (p : Addr × Obj) (cls : Value) (d : Option Addr), Zc cls d p.2 → (∃ vs, p.2.data = .fields vs) → L2H.RoomH k (A.deeper (envOfC qual scope s.heap.objs.size f cdv)) → sp p.1 cls d vs H Q E →
      ∃ t, PSs (L2H.cxH CX P w K mg base N qual scope f cdv A outer s H E p) body t ∧ t { nx := fun _ H' => Q .non H', rt := Q } (L2.start N vs) H) :
    FnE P w K mg base CX (k + 1) f (PySem.W.fnOf name qual params body scope dV kV doc pm an cdv ct) ps sp := by
  refine ⟨len, fun A outer s H args us vs Q E p cls d hr hpin hz hf e0 hb r hsp => ?_⟩
  have hl := len _ _ _ _ _ _ _ hsp
  have KX : K.In s.heap := e0.mod.kin.keeps fun b o e => (e0.bs b o e).1
  have lim : s.heap.NoLimit := e0.mod.nolimit.keeps fun b o e => (e0.bs b o e).1
  have kinds : ∀ y ∈ ps.zip us, scope.names.lookup y.1 = some .local ∨ (scope.names.lookup y.1 = some .cell ∧ ((cellsFrom (s.heap.objs.size + 1) scope.names []).lookup y.1).isSome = true) := fun ⟨n, v⟩ hy => by
    rcases S.par n (List.of_mem_zip hy).1 with q | q
    · exact .inl q
    · exact .inr ⟨q, PySem.W.cellsFrom_some _ _ _ (.inl q)⟩
  refine codeAny_call_function hr.depth (KX _ _ lk) rfl S.co S.gen rfl (PySem.W.codeRec_of KX hcd) (hb _ _ _ _ ?_)
  refine wpAny_newFunctionEnv_cells S.kind kinds fun env he s1 x => ?_
  subst he
  refine ⟨lim.keeps x.toInCall.keep, codeAny_func ?_⟩
  obtain ⟨t, ht, hq⟩ := hbody A outer s H vs Q E p cls d hz hf (hr.deeper _) hsp
  have I : Inv (L2H.cxH CX P w K mg base N qual scope f cdv A outer s H E p) [] (L2.start N vs) H s1 := L2H.inv_startH S hpin e0 hl r x
  refine wpAny_mono (ht.run [] s1 (L2.start N vs) H _ I hq) (fun fl s' hs => ?_) fun e s' hs => hs
  cases fl with
  | next =>
    obtain ⟨σ', H', J, q⟩ := hs
    exact ⟨V.non, H', J.os, J.bare, J.base, J.hok, (rfl : RelV .non Value.none), q⟩
  | ret u =>
    obtain ⟨v, σ', H', J, rv, q⟩ := hs
    exact ⟨v, H', J.os, J.bare, J.base, J.hok, rv, q⟩
  | brk => exact hs.elim fun _ z => z.elim fun _ z => z.2.elim
  | cont => exact hs.elim fun _ z => z.elim fun _ z => z.2.elim
theorem Fun_okE {x qual : Str} {st : Stmt} {N : List Str} (F : Fun K x qual st f fd) (S : FnScope N ps (defScope st)) (len : ∀ a cls d vs H Q E, sp a cls d vs H Q E → vs.length = ps.length)
    (body : ∀ (cdv : Value) (A : Around) (outer : List Env) (s : Shared) (H : Hp) (vs : List V) (Q : VK) (E : XK) (p : Addr × Obj) (cls : Value) (d : Option Addr), Zc cls d p.2 → (∃ vs, p.2.data = .fields vs) →
      L2H.RoomH k (A.deeper (envOfC qual (defScope st) s.heap.objs.size f cdv)) → sp p.1 cls d vs H Q E →
      ∃ t, PSs (L2H.cxH CX P w K mg base N qual (defScope st) f cdv A outer s H E p) (defBody st) t ∧ t { nx := fun _ H' => Q .non H', rt := Q } (start N vs) H) : FnE P w K mg base CX (k + 1) f fd ps sp := by
  obtain ⟨oc, od, kV, doc, pm, an, cdv, ct, osl, rfl, lk, hcd⟩ := F.ex
  exact fn_ofE lk hcd S len fun A outer s H vs Q E p cls d hz hf hr hsp => body cdv A outer s H vs Q E p cls d hz hf hr hsp
end
section
variable {X : Cx} {CX : CXT} {k : Nat} {f : Addr} {fd : FuncData} {ps : List Str} {sp : SpE} {E : XK} {x : Str} {p pos : Pos} {e : Expr} {es : List Expr} {t : TA} {a : Addr} {oe : Obj} {cls : Value} {d : Option Addr}
theorem pe_callE (F : FnE X.prog X.w X.K X.mg X.base CX k f fd ps sp) (hr : L2H.RoomH k X.A) (hp : (a, oe) ∈ X.pn) (hz : Zc cls d oe) (hf : ∃ vs, oe.data = .fields vs) (hg : Gl X x) (hm : X.mg x = some (.ref f)) (hk : PySem.W.keepIn X.K (.ref f) = true) (hb : Binds X.K fd ps []) (hx : Passes CX X E)
    (ha : PA X (e :: es) t) (hdb : (x == ("__debug__" : Str)) = false := by decide) (he : starEach (e :: es) X.env = (false, eval e X.env) :: starEach es X.env := by rfl) (hpl : (backTo pos (starEach es X.env)).any (·.1) = false := by rfl) :
    PE X (.Call (.Name x p) (e :: es) [] pos) (tCall (sp a cls d) [] E t) := by
  refine ⟨fun pins s σ H Q I h => ?_⟩
  refine wpAny_Call_Name_kw (ld_glob I hg hm ?_ hdb)
  refine PySem.W.callWith_K (h₀ := X.base) I.ok.mod.kin hk (thn (ha.run pos pins s σ H _ I h) fun us s1 ⟨vs, H1, I1, r, q⟩ => ⟨I1.kIn, ?_⟩) he hpl
  have q : sp a cls d (vs ++ []) H1 Q E := q
  rw [List.append_nil] at q
  have hl : us.length = ps.length := by rw [← r.length]; exact F.len _ _ _ _ _ _ _ q
  have b := hb s1 us I1.kIn (by rw [List.append_nil]; exact hl)
  rw [List.append_nil] at b
  have P1 := I1.pin (a, oe) (List.mem_append_left _ hp)
  have hpin : L2H.PinOk X.stack H1 s1 (a, oe) := ⟨P1.1, P1.2.1, fun hm => (List.mem_cons.mp (I1.stkSub a hm)).elim P1.2.2.1 P1.2.2.2.1, P1.2.2.2.2⟩
  refine wpAny_call (codeAny_mono (F.run X.A X.stack s1 H1 ⟨us, []⟩ us vs Q E (a, oe) cls d hr hpin hz hf I1.env0 b r q) fun r s' hq => ?_)
  match r, hq with
  | .error e, hq => exact hx pins σ H1 s1 e s' I1 hq
  | .ok (.ret u), hq => exact I1.after hq
end

/-! ### o.m(e, ..) that may raise, in a try -/
def tMethE (C : Addr) (m : Str) (sp : Sp) (E : L2.St → XK) (ta : TE) (t : TA) : TE := fun σ H Q => ta σ H fun x H1 => ∃ a dx fs, x = .ref a ∧ H1 a = some (.ins C dx fs) ∧ fs.lookup m = none ∧ t σ H1 fun vs H2 => sp (x :: vs) H2 Q (E σ)
theorem pe_methE {X : Cx} {CX : CXT} {k : Nat} {C f : Addr} {fd : FuncData} {ps : List Str} {m : Str} {sp : Sp} {E : L2.St → XK} {o e : Expr} {es : List Expr} {ta : TE} {t : TA} {apos pos : Pos} {pl : Sem Bool} (he : PE X o ta) (c : Cls X.K C) (hm : Meth X.K C m f)
    (F : FnOk X.prog X.w X.K X.mg X.base CX k f fd ps sp) (hr : Room k X.A) (hb : Binds X.K fd ps []) (hx : ∀ σ, PassesAt CX X σ (E σ)) (ha : PA X (e :: es) t)
    (hst : starEach (e :: es) X.env = (false, eval e X.env) :: starEach es X.env := by rfl) (hpl : (backTo pos (starEach es X.env)).any (·.1) = false := by rfl)
    (ht : eval (.Call (.Attribute o m apos) (e :: es) [] pos) X.env = (do
      let ov ← eval o X.env
      standAt apos.atName
      let (f, first) ← holding [ov] (getMethod ov m pl)
      callWith pos f first (backTo pos (starEach (e :: es) X.env)) (backToKw pos (keywordEach [] X.env))) := by rfl) :
    PE X (.Call (.Attribute o m apos) (e :: es) [] pos) (tMethE C m sp E ta t) := by
  refine ⟨fun pins s σ H Q I h => ?_⟩
  refine PySem.W.methodCall_KW (pl := pl) (thn (he.run pins s σ H _ I h) fun u s1 ⟨x, H1, I1, rx, a, dx, fs, ex, ea, l, q⟩ => ?_) ht
  subst ex
  obtain rfl : u = Value.ref a := rx
  refine getmeth_ok I1 ea c hm l ?_
  refine PySem.W.callWith_K (first := [.ref a]) (h₀ := X.base) I.ok.mod.kin hm.kp (thn (ha.run pos pins s1 σ H1 _ I1 q) fun us s2 ⟨vs, H2, I2, r, q2⟩ => ⟨I2.kIn, ?_⟩) hst hpl
  exact run_fnS (us := .ref a :: us) (vs := .ref a :: vs) F hr hb (hx σ) I2 (.cons rfl r) q2

/-! ### xs.count(b) of truths -/
theorem vals_bl_eq : ∀ {bs : List Bool} {us : List Value}, Vals (bs.map V.bl) us → us = bs.map Value.bool
  | [], _, .nil => rfl
  | b :: bs, _, .cons r t => by
    rw [vals_bl_eq t]
    cases r
    rfl
def rCntB (K : PySem.W.Frag) : V → List V → Hp → VK → Prop := fun x xs H Q => ∃ (p : Addr) (bs : List Bool) (k : Bool), x = .ref p ∧ xs = [.bl k] ∧ SqL K H p (bs.map V.bl) ∧ Q (.int (bs.count k : Nat)) H
theorem count_bl (k : Bool) : ∀ bs : List Bool, (bs.map Value.bool).countP (PyProof.Rows.isBoolOf k) = bs.count k
  | [] => rfl
  | b :: bs => by
    rw [List.map_cons, List.countP_cons, List.count_cons, count_bl k bs]
    rfl
theorem mt_bcount {X : Cx} : MtR X "list.count" (rCntB X.K) := by
  intro pins s σ H x xs v us Q I rx rxs h
  obtain ⟨p, bs, k, rfl, rfl, hs, q⟩ := h
  cases rx
  obtain ⟨u, rfl, ru⟩ := rxs.one
  cases ru
  obtain ⟨its, rv, ⟨⟨cls, dd, data, sl⟩, n, ho, hc, hdn, hd⟩, hlen⟩ := I.list hs
  simp only at hc hd
  subst hc hd
  have hi := vals_bl_eq rv
  subst hi
  refine call_meets PySem.F.slot_list_count ⟨_, ho, rfl⟩ PySem.F.entry_list_count (PySem.F.args_list_count_2 _ _)
    (SeqAt.list_countAt p (bs.map Value.bool).toArray n dd sl (.bool k) (PyProof.Rows.isBoolOf k)) ⟨ho, fun y hy => ?_, ?_⟩
  · obtain ⟨b, _, rfl⟩ := List.mem_map.mp (show y ∈ bs.map Value.bool by simpa using hy)
    exact SeqAt.EqAt.bool_bool b k
  · refine ⟨.int (bs.count k : Nat), H, I.tok _, ⟨s.toks, ?_⟩, q⟩
    show Value.int (((bs.map Value.bool).toArray.toList.countP (PyProof.Rows.isBoolOf k) : Nat) : Int) s.toks = Value.int ((bs.count k : Nat) : Int) s.toks
    rw [show (bs.map Value.bool).toArray.toList = bs.map Value.bool from rfl, count_bl]
end Rp
/-! rules for an except suite whose readings speak of the outer context -/
namespace Rp
open PySem PySem.Spec PyProof.Rows L2
theorem call_isS {X : Cx} {a : Addr} {oe : Obj} {cls : Value} {d : Option Addr} {pn : List (Addr × Obj)} (hz : Zc cls d oe) (hf : ∃ vs, oe.data = .fields vs) : CallR (X.suite a ((a, oe) :: pn)) (.builtin "isinstance") (rIsX X.K a cls d) :=
  call_isX (X := X.suite a ((a, oe) :: pn)) List.mem_cons_self hz hf
theorem ix_listS {X : Cx} {a : Addr} {pn : List (Addr × Obj)} : IxR (X.suite a pn) (rIxL X.K) := ix_list (X := X.suite a pn)
theorem pe_bmS {X : Cx} {a : Addr} {pn : List (Addr × Obj)} {T id : String} {name : Str} {r : V → List V → Hp → VK → Prop} {o e : Expr} {es : List Expr} {to : TE} {t : TA} {apos cpos : Pos} (pa : PlainAttrs T) (slot : Slot T name id) (hty : typeOf (.builtin id) = pure (.type "method_descriptor")) (hm : MtR (X.suite a pn) id r) (ho : PE (X.suite a pn) o to) (ha : PA (X.suite a pn) (e :: es) t)
    (hbase : attributeBase o name X.env (eval o X.env) = eval o X.env := by rfl)
    (hfew : ((backTo cpos (starEach (e :: es) X.env)).all (fun x => !x.1) && (backToKw cpos (keywordEach [] X.env)).all (fun x => x.1.isSome)
      && decide ((e :: es).length + ([] : List Keyword).length + (if ([] : List Keyword).isEmpty then 0 else 1) < 30)) = true := by rfl)
    (hline : (apos.endLine == cpos.line) = true := by rfl) (hs : starEach (e :: es) X.env = (false, eval e X.env) :: starEach es X.env := by rfl) (hplain : (backTo cpos (starEach es X.env)).any (·.1) = false := by rfl) :
    PE (X.suite a pn) (.Call (.Attribute o name apos) (e :: es) [] cpos) (tBM X.K T r to t) := pe_bm (X := X.suite a pn) pa slot hty hm ho ha hbase hfew hline hs hplain
end Rp
/-! repr of dicts, by the abstract heap: the dict is locked while its parts are told -/
namespace Rp
open PySem PySem.Spec PyProof.Rows L2
theorem pairs_at {P : Program} {w : World} : ∀ {es : List DictEntry} {vs : List (Key × Value)} {kvs : List (Key × V)}, Pairs (mixKind P w) es vs → KV kvs vs → ∀ (i : Nat) (e : DictEntry), es[i]? = some e → ∃ k v, kvs[i]? = some (k, v) ∧ RelV (kV k) e.key ∧ RelV v e.val := by
  intro es
  induction es with
  | nil => intro vs kvs _ _ i e h; cases h
  | cons x es ih =>
    intro vs kvs p r i e h
    cases p with
    | @cons _ kv _ vs' hk hv p' =>
      cases r with
      | @cons q _ qs _ h1 r' =>
        cases i with
        | zero =>
          cases h
          exact ⟨q.1, q.2, rfl, h1.1 ▸ relV_key hk, hv ▸ h1.2⟩
        | succ j =>
          exact ih p' r' j e h
section
variable {X : Cx} {n : Nat} {as : List Addr} {H : Hp} {a : Addr} {kvs : List (Key × V)} {ts : List Str} {base : Nat} {g : List Code} {A : Around} {pins : List (Addr × Obj)} {σ : L2.St}
/-- what is told of the parts, the dict locked -/
def Parts (X : Cx) (n : Nat) (as : List Addr) (H : Hp) (kvs : List (Key × V)) (ts : List Str) : Prop := ts.length = kvs.length ∧ ∀ (i : Nat) (k : Key) (v : V), kvs[i]? = some (k, v) → ∃ t1 t2 : Str, ts[i]? = some (t1 ++ ": " ++ t2) ∧ Says X n as H (kV k) t1 ∧ Says X n as H v t2
theorem dict_body {id : String} {rest : List Value} {od : Obj} (lo : Low X (n + 1) g A) (hcl : ∀ b ∈ a :: as, Clear g b) (hna : a ∉ as) (hp : Parts X n as H kvs ts)
    (hsz : base + (dictText ts).length ≤ sizeLine) (hq : H a = some (.frz od (.dK kvs))) {s : Shared} {H1 : Hp} (I : Inv X pins σ H1 s) (hs : Same H H1) {R : Result → Shared → Prop}
    (hg : (Code.builtin id ⟨.ref a :: rest, []⟩).guards = [Code.builtin id ⟨.ref a :: rest, []⟩]) (hw : (Code.builtin id ⟨.ref a :: rest, []⟩).weight = 1) (hu : (Code.builtin id ⟨.ref a :: rest, []⟩).cUnits = 1) (he : (Code.builtin id ⟨.ref a :: rest, []⟩).envs = [])
    (fin : ∀ s H2 u, Inv X pins σ H2 s → Same H1 H2 → R (.ok (.ret (.str (dictText ts) u))) s) (bad : ∀ e s, X.xe e s → R (.error e) s) :
    wpOwn (model X.prog X.w) A (.builtin id ⟨.ref a :: rest, []⟩) (Builtin.dictReprAt base ⟨[.ref a], []⟩) (fun fin s' => match fin with | .done f => R (.ok f) s' | .again c' => c'.quiet = true ∧ codeAny (model X.prog X.w) A c' R s') (fun e s' => R (.error e) s') s := by
  obtain ⟨hl, hit⟩ := hp
  obtain ⟨sys, ho, hx, es, ep, vs, hd, len, kv, _, es2, ho2, _, hd2, _, pr, _⟩ := I.frzK (hs _ _ hq)
  cases ho.symm.trans ho2
  cases hd.symm.trans hd2
  have ent := pairs_at pr kv
  have still : ∀ {H2 : Hp} {s2 : Shared}, Inv X pins σ H2 s2 → Same H1 H2 → s2.heap.get? a = some od := fun {H2 s2} I2 e2 => (I2.frzK (e2 _ _ (hs _ _ hq))).2.1
  have ty : s.TypeIs (.ref a) "dict" := ⟨od, ho, hx.1⟩
  have big := piled_le_dictText ts
  have small : (dictText ts).length ≤ sizeLine := by omega
  have lts : ts.length = es.size := by omega
  unfold Builtin.dictReprAt Builtin.Dict.dictSlotNone
  refine wpOwn_bind (wpOwn_of_wpAny (wpAny_bind (wpAny_notOrdered_dict ty ?_)))
  show wpAny (model X.prog X.w) _ (pure (Value.ref a)) _ _ s
  refine wpAny_pure ?_
  rw [dictReprRunning_eq]
  refine wpOwn_bind (wpOwn_stackTailAny lo.gd (dictGuardF_off _) (dictGuardF_pos _) ?_)
  have none_ : (g.any fun c => dictGuardF (.ref a) (c, default)) = false := List.any_eq_false.mpr fun c hc => by
    rw [dictGuardF_of_clear (hcl a List.mem_cons_self) c hc]
    exact Bool.false_ne_true
  rw [none_]
  refine wpOwn_of_wpAny ?_
  have lo2 := lo.guard hg hw hu he
  have cl2 : ∀ b ∈ as, Clear (Code.builtin id ⟨.ref a :: rest, []⟩ :: g) b := fun b hb => (hcl b (List.mem_cons_of_mem _ hb)).cons (a := a) fun e => hna (e ▸ hb)
  show wpAny (model X.prog X.w) _ (Builtin.Dict.addrOf (.ref a) >>= _) _ _ s
  refine wpAny_bind (wpAny_pure ?_)
  show wpAny (model X.prog X.w) _ (Builtin.Dict.showsAll a >>= _) _ _ s
  unfold Builtin.Dict.showsAll
  rw [sys]
  refine wpAny_bind (wpAny_pure (wpAny_bind (wpAny_dictEpoch ho hd (wpAny_bind (wpAny_dictEntries ho hd (wpAny_bind ?_))))))
  rw [Std.Legacy.Range.forIn_eq_forIn_range']
  simp only [Std.Legacy.Range.size, Nat.sub_zero, Nat.add_sub_cancel, Nat.div_one]
  refine wpAny_mono (E := X.xe) (wpAny_forIn_list _ (fun l r s2 => ∃ i H2, l = List.range' i (es.size - i) ∧ i ≤ es.size ∧ r = (⟨(ts.take i).toArray, base + piled (ts.take i)⟩ : (Array Str × Nat)) ∧ Inv X pins σ H2 s2 ∧ Same H1 H2)
    (fun r s2 => ∃ H2, r = (⟨ts.toArray, base + piled ts⟩ : (Array Str × Nat)) ∧ Inv X pins σ H2 s2 ∧ Same H1 H2) ?_ ?_ _ _ ⟨0, H1, by simp, Nat.zero_le _, by simp [piled], I, Same.refl _⟩) (fun r s2 k => ?_) fun e s2 k => bad e s2 k
  · rintro x l _ s2 ⟨i, H2, hr, hi, rfl, I2, e2⟩
    have lt : i < es.size := by
      rcases Nat.lt_or_ge i es.size with z | z
      · exact z
      · rw [Nat.sub_eq_zero_of_le z] at hr; cases hr
    have step : es.size - i = (es.size - (i + 1)) + 1 := by omega
    rw [step, List.range'_succ] at hr
    injection hr with h1 h2
    subst h1 h2
    have ge : es.toList[x]? = some es[x] := by simp [lt]
    obtain ⟨k, v, gk, rk, rv⟩ := ent x _ ge
    obtain ⟨t1, t2, gt, sk, sv⟩ := hit x k v gk
    have l3 : (t1 ++ ": " ++ t2 : Str).length = t1.length + 2 + t2.length := by rw [strLen_append, strLen_append]; rfl
    have p1 := piled_take_succ gt
    have p2 := piled_take_le ts (x + 1)
    rw [l3] at p1
    refine wpAny_bind (wpAny_dictEntries (still I2 e2) hd ?_)
    rw [Array.getElem?_eq_getElem lt]
    refine wpAny_bind (wpAny_holding (wpAny_bind (wpAny_mono (sk.und _ _ (base + piled (ts.take x) + 1) pins s2 σ H2 _ lo2 cl2 I2 (hs.trans e2) rk (by omega)) (fun r3 s3 k3 => ?_) fun _ _ q => q)))
    obtain ⟨rfl, H3, I3, e3⟩ := k3
    refine wpAny_bind (wpAny_mono (sv.und _ _ (base + piled (ts.take x) + (r3.length + 3)) pins s3 σ H3 _ lo2 cl2 I3 (hs.trans (e2.trans e3)) rv (by omega)) (fun r4 s4 k4 => ?_) fun _ _ q => q)
    obtain ⟨rfl, H4, I4, e4⟩ := k4
    have e5 := e2.trans (e3.trans e4)
    refine wpAny_pure (wpAny_bind (wpAny_dictEpoch (still I4 e5) hd ?_))
    rw [if_neg (by simp)]
    refine wpAny_pure ⟨x + 1, H4, rfl, lt, ?_, I4, e5⟩
    have q1 : (ts.take x).toArray.push (r3 ++ ": " ++ r4) = (ts.take (x + 1)).toArray := by simp [List.take_add_one, gt]
    have q2 : base + piled (ts.take x) + (r3.length + r4.length + 4) = base + piled (ts.take (x + 1)) := by omega
    rw [q1, q2]
  · rintro r s2 ⟨i, H2, hr, hi, rfl, I2, e2⟩
    have ei : i = ts.length := by
      rcases Nat.lt_or_ge i es.size with z | z
      · have step : es.size - i = (es.size - (i + 1)) + 1 := by omega
        rw [step, List.range'_succ] at hr; cases hr
      · omega
    rw [ei, List.take_length]
    exact ⟨H2, rfl, I2, e2⟩
  · obtain ⟨H2, rfl, I2, e2⟩ := k
    refine wpAny_bind (wpAny_mkStr (wpAny_pure ?_) (by simpa [dictText] using small))
    have q := fin _ H2 s2.toks (I2.tok (s2.toks + 1)) e2
    simpa [dictText] using q
theorem same_over {H1 : Hp} {u : HO} (e : Same H H1) : Same (upd H a u) (upd H1 a u) := fun y o h => by
  by_cases z : y = a
  · rw [z, upd_same] at h ⊢
    exact h
  · rw [upd_ne z] at h ⊢
    exact e _ _ h
theorem says_dict (hq : H a = some (.dK kvs)) (hna : a ∉ as) (hp : ∀ od, Parts X n as (upd H a (.frz od (.dK kvs))) kvs ts) : Says X (n + 2) (a :: as) H (.ref a) (dictText ts) := by
  have mu : Mut (some (.dK kvs)) := trivial
  have open_ : ∀ {H1 H2 : Hp} {od : Obj}, Same H H1 → Same (upd H1 a (.frz od (.dK kvs))) H2 → Same H1 (upd H2 a (.dK kvs)) := fun {H1 H2 od} e e2 y o h => by
    by_cases z : y = a
    · rw [z, e _ _ hq] at h
      rw [z, upd_same]
      exact h
    · rw [upd_ne z]
      exact e2 _ _ (by rw [upd_ne z]; exact h)
  refine ⟨fun A g base pins s σ H1 u lo cl I hs ru hz => ?_, fun A g pins s σ H1 u lo cl I hs ru hz => ?_⟩
  all_goals
    cases ru
    have h1 := hs _ _ hq
    have hn := I.nofrz h1 mu
    obtain ⟨od, IL⟩ := I.lock h1 mu
    obtain ⟨_, ho, hx, _⟩ := IL.frzK upd_same
    have ps : Parts X n as (upd H1 a (.frz od (.dK kvs))) kvs ts := ⟨(hp od).1, fun i k v hv => let ⟨t1, t2, a1, a2, a3⟩ := (hp od).2 i k v hv; ⟨t1, t2, a1, a2.grow (same_over hs), a3.grow (same_over hs)⟩⟩
  · refine wpAny_pyReprUnder_ref (by omega) (wpAny_pyReprObjUnder_twin (twin := "dict.__repr__.under") ⟨od, ho, hx.1⟩ PySem.F.slot_dict_repr rfl lo.rm.units0
      (call_twin_own (PySem.F.quiet_dict_repr_under _) PySem.F.entry_dict_repr_under PySem.F.check_dict_repr_under ⟨od, ho, hx.1⟩ PySem.F.slot_dict_repr (PySem.F.args_dict_repr_1 _)
        (dict_body (R := callEnd _ _) (lo.mono (by omega)) cl hna ps hz upd_same IL (Same.refl _) (by show (if Code.isGuard _ then _ else _) = _; rw [isGuard_dict_repr_under]; rfl) (by simp only [Code.weight, isGuard_dict_repr_under]; rfl) (by rfl) (by first | rfl | simp [Code.envs, Code.isFrame])
          (fun s2 H2 tk I2 e2 => ⟨⟨_, _, rfl⟩, _, _, rfl, rfl, _, I2.unlock (e2 _ _ upd_same) hn, open_ hs e2⟩) fun e s2 he => he)))
  · have h2 := lo.rm.units
    refine call_repr_slot (by omega) ⟨od, ho, hx.1⟩ PySem.F.slot_dict_repr (wpAny_call (codeAny_call_builtin_own (Code.quiet_builtin _ (by decide +kernel)) PySem.F.entry_dict_repr (PySem.F.slot_dict_repr.check _ _ _ _ _ _ _ _ ⟨od, ho, hx.1⟩ (PySem.F.args_dict_repr_1 _)
      (dict_body (A := A.in1) (base := 0) (R := callEnd _ _) lo.in1 cl hna ps (by omega) upd_same IL (Same.refl _) (by show (if Code.isGuard _ then _ else _) = _; rw [isGuard_dict_repr]; rfl) (by simp only [Code.weight, isGuard_dict_repr]; rfl) (by rfl) (by first | rfl | simp [Code.envs, Code.isFrame])
        (fun s2 H2 tk I2 e2 => ⟨_, _, rfl, ⟨_, rfl⟩, _, I2.unlock (e2 _ _ upd_same) hn, open_ hs e2⟩) fun e s2 he => he))))
end
end Rp
/-! several except clauses that each keep the exception by a name; nothing else comes out of the body -/
namespace Rp
open PySem PySem.Spec PyProof.Rows L2
/-- the wish of the clauses, made one by one of the wish of a single one -/
inductive Named (X : Cx) : List ExceptHandler → (Ends → WX) → Prop
  | none : Named X [] (fun _ _ _ _ _ => False)
  | more {x n : Str} {c : Value} {i : Nat} {ts : Addr → Value → Option Addr → TS} {st : Stmt} {suite : List Stmt} {np p : Pos} {hds : List ExceptHandler} {f : Ends → WX} (hi : X.N[i]? = some n) (hl : X.env.kindOf n = some .local) (hc : Names X x c)
      (hsu : ∀ (a : Addr) (oe : Obj) (cls : Value) (d : Option Addr) (pn : List (Addr × Obj)), Zc cls d oe → (∃ vs, oe.data = .fields vs) → PSs (X.suite a ((a, oe) :: pn)) (st :: suite) (ts a cls d)) (r : Named X hds f) :
      Named X (.ExceptHandler (some (.Name x np)) (some n) (st :: suite) p :: hds) (fun D => wAs X.K c i ts (f D) D)
/-- no frame is a record -/
theorem no_frame {h B : Heap} {l : List Env} {a : Addr} {o : Obj} {vs : Array Value} (ff : h.FunFrames B l) (ha : h.get? a = some o) (hd : o.data = .fields vs) : a ∉ frs l := by
  intro z
  have ⟨_, o2, g2, nf⟩ := ff.mem z
  cases ha.symm.trans g2
  exact nf _ hd
section
variable {X : Cx} {hds : List ExceptHandler} {f : Ends → WX} {D : Ends} {pins : List (Addr × Obj)} {σ : L2.St} {H : Hp} {a : Addr} {B : Heap} {cls : Value} {d : Option Addr} {s0 s : Shared}
theorem clauses (hh : Named X hds f) (hf : X.env.frame = some X.env.locals) (hN : X.N.Nodup) (I : Inv X pins σ H s0) (ok : X.Ok) (nb : ∀ b o, s0.heap.get? b = some o → b ∉ frs X.stack → B.get? b = some o) (hs : X.stack = X.env :: X.outer)
    (fl : HandSPX.FlyingZ B (X.env :: X.outer) a (Zc cls d) s.heap) (up : s0.heap.UpToSlots s.heap) (na : H a = none) (os : s.os = s0.os) (ag : AllBare s.gens) (w : f D cls d σ H) :
    wpAny (model X.prog X.w) X.A (handleBy (.ref a) X.env hds) (SP X pins D) X.xe s := by
  induction hh with
  | none => exact w.elim
  | @more x n c i ts st suite np p rest g hi hl hc hsu r ih =>
    have ⟨b, eb, yes, no⟩ := w
    have fine : ∀ {h : Heap}, HandSPX.FlyingZ B (X.env :: X.outer) a (Zc cls d) h → s0.heap.UpToSlots h → ∃ oe, h.get? a = some oe ∧ Zc cls d oe ∧ (∃ vs, oe.data = .fields vs) ∧ Inv (X.suite a ((a, oe) :: (X.pn ++ pins))) [] σ H { s with heap := h } := by
      intro h F U
      obtain ⟨oe, vs, ge, ze, de⟩ := F.there
      have out := no_frame F.2.2.1 ge de
      have at_ : ∀ e ∈ X.env :: X.outer, ∀ q, e.frame = some q → a ≠ q := fun e he q hq z => out (List.mem_filterMap.mpr ⟨e, he, by rw [hq, z]⟩)
      refine ⟨oe, ge, ze, ⟨vs, de⟩, (I.landed (s' := { s with heap := h }) nb F.1 U os ag).suite ge de na (at_ _ List.mem_cons_self _ hf) fun hm => ?_⟩
      obtain ⟨e, he, q⟩ := List.mem_filterMap.mp hm
      exact at_ e (List.mem_cons_of_mem _ he) _ q rfl
    obtain ⟨oe, ge, ze, _, S⟩ := fine fl up
    refine wpAny_handleBy_cons (codeAny_handlers_test ?_) (fun z => by cases z)
    have kind : PySem.W.Looks (model X.prog X.w) s.heap (typeOf (.ref a)) cls := fun A Q E s' k q => wpAny_typeOf_ref (k _ _ ge) (ze.1.symm ▸ q)
    have look := PySem.W.exm_one (M := model X.prog X.w) S.kIn kind eb
    have name : ∀ {Q E : Value → Shared → Prop}, Q c s → wpAny (model X.prog X.w) (X.A.mark (some (.ref a))) (eval (.Name x np) X.env) Q E s := by
      intro Q E q
      rcases hc with ⟨g1, g2, g3 | ⟨g3, g4, g5⟩⟩
      · exact ld_glob (X := X.suite a ((a, oe) :: (X.pn ++ pins))) S g1 g3 q g2
      · exact ld_blt (X := X.suite a ((a, oe) :: (X.pn ++ pins))) S g1 g3 g4 q g5 g2
    refine name (look.here ?_)
    cases b
    · show wpAny (model X.prog X.w) X.A (handleBy (.ref a) X.env rest) (SP X pins D) X.xe s
      exact ih (no rfl)
    · refine codeAny_handlers_suite_as (HandSPX.lands_againZ fl fun h2 fl2 up2 => ?_)
      obtain ⟨o2, g2, z2, f2, S2⟩ := fine fl2 (up.trans up2)
      refine store_ok (X := X.suite a ((a, o2) :: (X.pn ++ pins))) (v := .ref a) S2 hN hi (.inl hl) rfl (fun s3 S3 => ?_) (.inr hl)
      refine wpAny_mono ((hsu a o2 cls d _ z2 f2).run [] s3 _ H _ S3 (yes rfl a na)) (fun fw s4 k => ?_) (fun _ _ z => False.elim z)
      have bye : ∀ {σ4 : L2.St} {H4 : Hp} {Q : Shared → Prop}, Inv (X.suite a ((a, o2) :: (X.pn ++ pins))) [] σ4 H4 s4 → (∀ s5, Inv X pins (σ4.set i none) H4 s5 → Q s5) →
          wpAny (model X.prog X.w) X.A (do bindName X.env n .none; unbindBehindTheSuite X.env n p) (fun _ s5 => Q s5) X.xe s4 := fun S4 hq => gone_ok (S4.unsuite ok) hN hi hl hq
      rcases fw with _ | u | _ | _
      · have ⟨σ4, H4, S4, q4⟩ := k
        exact bye S4 fun _ J => ⟨_, _, J, q4⟩
      · first
          | (have ⟨v, σ4, H4, S4, r4, q4⟩ := k; exact bye S4 fun _ J => ⟨_, _, _, J, r4, q4⟩)
          | (have ⟨σ4, H4, S4, q4⟩ := k; exact bye S4 fun _ J => ⟨_, _, J, q4⟩)
      all_goals
        first
          | (have ⟨σ4, H4, S4, q4⟩ := k; exact bye S4 fun _ J => ⟨_, _, J, q4⟩)
          | (have ⟨v, σ4, H4, S4, r4, q4⟩ := k; exact bye S4 fun _ J => ⟨_, _, _, J, r4, q4⟩)
theorem ps_try_named {body : List Stmt} {h₀ : ExceptHandler} {pos : Pos} {tb : WX → TS} (hs : X.stack = X.env :: X.outer) (hf : X.env.frame = some X.env.locals) (hN : X.N.Nodup)
    (hb : ∀ (W : WX) (pn : List (Addr × Obj)) (xe : Value → Shared → Prop), Takes (X.tr pn xe) W → PassesOwn (model X.prog X.w) X.A X.env xe → PSs (X.tr pn xe) body (tb W)) (hh : Named X (h₀ :: hds) f) :
    PS X (.Try body (h₀ :: hds) [] [] pos) (fun D σ H => tb (f D) D σ H) := by
  refine ⟨fun pins s σ H D I h => wpAny_Try_except ?_⟩
  have ok := I.ok
  refine wpAny_mono ((hb (f D) (X.pn ++ pins) _ (fun u s' z => ?_) PassesOwn.looking).run [] s σ H D (I.toTry _) h) (fun fw s1 k => ?_) fun _ _ q => q
  · obtain ⟨a, B, s0, pins', σ', H', cls, d, rfl, J, nb, up, sky, na, os, ag, w⟩ := z
    have J := J.ofTry ok
    have sky2 : Sky B (X.env :: X.outer) a (Zc cls d) X.env.locals s'.heap := hs ▸ sky
    exact sky2.land Zc.steady (ok.frames.trans (congrArg some hs)) hf fun h2 fl up2 => clauses (s := { s' with heap := h2 }) hh hf hN J ok nb hs fl (up.trans up2) na os ag w
  · rcases fw with _ | u | _ | _
    · have ⟨σ', H', J, q⟩ := k
      exact wpAny_execs_nil ⟨σ', H', J.ofTry ok, q⟩
    all_goals
      first
        | (have ⟨σ', H', J, q⟩ := k; exact ⟨σ', H', J.ofTry ok, q⟩)
        | (have ⟨v, σ', H', J, r, q⟩ := k; exact ⟨v, σ', H', J.ofTry ok, r, q⟩)
end
end Rp
/-! an instance whose __init__ may raise, within a try -/
namespace Rp
open PySem PySem.Spec PyProof.Rows L2
section
variable {X : Cx} {CX : CXT} {k : Nat} {f C : Addr} {fd : FuncData} {ps : List Str} {sp : Sp} {E : L2.St → XK} {x : Str} {p pos : Pos} {e : Expr} {es : List Expr} {t : TA}
theorem made_here {pins : List (Addr × Obj)} {σ : L2.St} {H : Hp} {s : Shared} {Q : VK} {us : List Value} {vs : List V} (M : Mk X.K C f) (F : FnOk X.prog X.w X.K X.mg X.base CX k f fd ps sp) (hr : Room (k + 1) X.A) (hb : Binds X.K fd ps []) (hx : PassesAt CX X σ (E σ))
    (I : Inv X pins σ H s) (r : Vals vs us) (h : ∀ x dx, H x = none → H dx = none → dx ≠ x → sp (.ref x :: vs) (upd (upd H dx (.own x)) x (.ins C dx [])) (fun v H2 => v = .non ∧ Q (.ref x) H2) (E σ)) :
    wpAny (model X.prog X.w) X.A (call (.ref C) us) (EP X pins σ Q) X.xe s := by
  have I' := Inv.made (C := C) I
  have rs : Vals (V.ref (s.heap.objs.size + 1) :: vs) (Value.ref (s.heap.objs.size + 1) :: us) := .cons rfl r
  have hsp := h (s.heap.objs.size + 1) s.heap.objs.size (I.hok.fresh (Nat.le_add_right _ _)) (I.hok.fresh (Nat.le_refl _)) (Nat.ne_of_lt (Nat.lt_succ_self _))
  have many : (Value.ref (s.heap.objs.size + 1) :: us).length = ps.length := rs.length ▸ F.len _ _ _ _ hsp
  have bt := hb _ _ I'.kIn (by rw [List.append_nil]; exact many)
  rw [List.append_nil] at bt
  refine wpAny_call (make_map (f := f) I.kIn M.makes M.init (beq_iff_eq.mp M.fn) (codeAny_mono (F.run _ X.stack _ _ _ _ _ _ (E σ) (hr.make C us []) (I'.env0.make C us []) bt rs hsp) fun out s2 k2 => ?_))
  rcases out with er | fl
  rotate_left
  · cases fl with
    | ret u =>
      obtain ⟨v, H2, I2, rv, rfl, q⟩ := I'.after k2
      exact ⟨rv, V.ref (s.heap.objs.size + 1), H2, I2, rfl, q⟩
    | next => exact k2.elim
    | brk => exact k2.elim
    | cont => exact k2.elim
  · exact hx pins _ _ er s2 I' k2
def tMakeS (C : Addr) (sp : Sp) (E : L2.St → XK) (t : TA) : TE := fun σ H Q => t σ H fun vs H1 => ∀ x dx, H1 x = none → H1 dx = none → dx ≠ x →
  sp (.ref x :: vs) (upd (upd H1 dx (.own x)) x (.ins C dx [])) (fun v H2 => v = .non ∧ Q (.ref x) H2) (E σ)
theorem pe_makeS (M : Mk X.K C f) (F : FnOk X.prog X.w X.K X.mg X.base CX k f fd ps sp) (hr : Room (k + 1) X.A) (hg : Gl X x) (hm : X.mg x = some (.ref C)) (hb : Binds X.K fd ps []) (hx : ∀ σ, PassesAt CX X σ (E σ))
    (ha : PA X (e :: es) t) (hdb : (x == ("__debug__" : Str)) = false := by decide) (he : starEach (e :: es) X.env = (false, eval e X.env) :: starEach es X.env := by rfl) (hpl : (backTo pos (starEach es X.env)).any (·.1) = false := by rfl) :
    PE X (.Call (.Name x p) (e :: es) [] pos) (tMakeS C sp E t) :=
  ⟨fun pins s σ H Q I h => wpAny_Call_Name_kw (ld_glob I hg hm (PySem.W.callWith_K (h₀ := X.base) I.ok.mod.kin M.kp (thn (ha.run pos pins s σ H _ I h) fun us s1 ⟨vs, H1, I1, r, q⟩ => ⟨I1.kIn, made_here M F hr hb (hx σ) I1 r q⟩) he hpl) hdb)⟩
end
end Rp
/-! == and != by an own __eq__ that may answer either way -/
namespace Rp
open PySem PySem.Spec PyProof.Rows L2
section
variable {prog : Program} {w : World} {A : Around} {E : Value → Shared → Prop} {s : Shared} {K : PySem.W.Frag} {x C L f : Addr} {h₀ : Heap} {m : Str → Option Value} {ox : Obj} {od : Option Obj} {b tb : Value}
open PySem.W in
/-- x != b where the class says only what == is -/
theorem ne_K {Q : Value → Shared → Prop} (hu : A.units + 1 < cLine) (FR : Fr h₀ L s.heap m) (X₀ : K.In h₀) (I : InstAt s.heap x ox C od) (hb : Looks (model prog w) s.heap (typeOf b) tb) (hn : notFirst K C tb = true)
    (hne : findIn K (.ref C) "__ne__" = some (some (.builtin "object.__ne__"))) (hm : mroIn K C (.type "object") = some true)
    (hs : findIn K (.ref C) "__eq__" = some (some (.ref f))) (hf : isFn K (.ref f) = true)
    (h : wpAny (model prog w) A.in1 (call (.ref f) [.ref x, b]) (fun v s' => ∃ r, v = .bool r ∧ Q (.bool (!r)) s') E s) : wpAny (model prog w) A (richCompare .NotEq (.ref x) b) Q E s := by
  have X := X₀.keeps FR.keep
  have hu1 : A.in1.units < cLine := hu
  have sub : Looks (model prog w) s.heap (isInstance (.ref x) (.type "object")) true := I.type.andThen (looks_mroIn X hm)
  have S := PySem.F.cmp_object.ne
  have one : wpAny (model prog w) A (tryCompare (.ref x) "__ne__" b) (fun r s' => ∃ v, r = some v ∧ Q v s') E s := by
    unfold tryCompare
    have body : wpAny (model prog w) A (call (.builtin "object.__ne__") [.ref x, b]) (fun v s' => ∃ r, v = .bool r ∧ Q (.bool r) s') E s := by
      obtain ⟨hp, g, d, t, os⟩ := s
      refine wpAny_call (codeAny_call_builtin S.plain PySem.F.cmpEntry_ne (@check_slot (model prog w) _ _ ⟨hp, g, d, t, os⟩ "object.__ne__" "object" "__ne__" (.ref x) [b] [] _ PySem.F.cmpKind_ne PySem.F.cmpSplit_ne sub (PySem.F.cmpArgs_ne _ _) ?_))
      unfold Builtin.«object.__ne__»
      refine wpAny_bind (wpAny_of_eq (a := ((Value.ref x : Value), [b])) (by first | rfl | (simp only [Builtin.slotArgs]; rfl)) ?_)
      refine wpAny_bind (wpAny_cRoomFor hu1 ?_)
      refine wpAny_bind (ifBound_K X I hs hf (wpAny_mono h (fun v s' hv => ?_) fun _ _ e => e))
      obtain ⟨r, rfl, q⟩ := hv
      exact wpAny_bind (wpAny_truthy_bool (wpAny_pure ⟨!r, rfl, q⟩))
    have bound : wpAny (model prog w) A (callSpecialIfBound? (.ref x) "__ne__" [b]) (fun o s' => ∃ r, o = some (.bool r) ∧ Q (.bool r) s') E s := by
      simp only [callSpecialIfBound?, bindSpecialIfBound?]
      refine wpAny_holding (wpAny_bind (wpAny_bind (wpAny_bind (I.type.here ((looks_findIn X hne).here ?_)))))
      simp only [S.bind]
      refine wpAny_bind (wpAny_askSetting (wpAny_ite ?_))
      have fin : wpAny (model prog w) A (call (.builtin "object.__ne__") ([.ref x] ++ [b]) >>= fun v => pure (some v)) (fun o s' => ∃ r, o = some (.bool r) ∧ Q (.bool r) s') E s :=
        wpAny_bind (wpAny_mono body (fun v s' h' => by
          obtain ⟨r, rfl, q⟩ := h'
          exact wpAny_pure ⟨r, rfl, q⟩) fun _ _ h' => h')
      split
      · exact wpAny_bind (wpAny_pure (wpAny_pure fin))
      · exact wpAny_tryCatch (wpAny_bind (wpAny_pure (wpAny_pure fin)))
    refine wpAny_bind (wpAny_mono bound (fun v s' hv => ?_) fun _ _ e => e)
    obtain ⟨r, rfl, q⟩ := hv
    exact wpAny_pure ⟨_, rfl, q⟩
  unfold richCompare
  simp only [oneThing_ref]
  refine wpAny_holding (wpAny_bind (wpAny_cRoomFor (Nat.lt_of_succ_lt hu) ?_))
  refine wpAny_bind (I.type.here (wpAny_bind (hb.here ?_)))
  split
  · rename_i q
    have e : subIn K tb (.ref C) = some false := by
      rcases Bool.or_eq_true_iff.mp hn with e | e
      · rw [beq_iff_eq.mp e] at q; simp at q
      · exact beq_iff_eq.mp e
    refine wpAny_bind ((looks_subIn X e).here ?_)
    simp only [Bool.false_eq_true, if_false]
    refine wpAny_bind (wpAny_mono one (fun r s' z => ?_) fun _ _ e => e)
    obtain ⟨v, rfl, hq⟩ := z
    exact wpAny_pure hq
  · refine wpAny_bind (wpAny_pure ?_)
    simp only [Bool.false_eq_true, if_false]
    refine wpAny_bind (wpAny_mono one (fun r s' z => ?_) fun _ _ e => e)
    obtain ⟨v, rfl, hq⟩ := z
    exact wpAny_pure hq
end
/-- what a class with an own == and no own != says -/
structure OwnE (K : PySem.W.Frag) (C f : Addr) : Prop where
  eq : PySem.W.findIn K (.ref C) "__eq__" = some (some (.ref f))
  fn : PySem.W.isFn K (.ref f) = true
  ne : PySem.W.findIn K (.ref C) "__ne__" = some (some (.builtin "object.__ne__"))
  mro : PySem.W.mroIn K C (.type "object") = some true
section
variable {X : Cx} {C f : Addr} {fd : FuncData} {ps : List Str} {sp : Sp} {n : Nat} {E : XK} {CX : CXT}
/-- x == y, x != y: x of the class, y of any type -/
def rOwn (K : PySem.W.Frag) (C : Addr) (sp : Sp) (E : XK) (g : Bool → Bool) : R2 := fun x y H Q => ∃ a dx fs tb, x = .ref a ∧ H a = some (.ins C dx fs) ∧ TyX K H y tb ∧ PySem.W.notFirst K C tb = true ∧ sp [x, y] H (fun v H' => ∃ r, v = .bl r ∧ Q (.bl (g r)) H') E
theorem own_callee {A : Around} {pins : List (Addr × Obj)} {σ : L2.St} {H : Hp} {s : Shared} {x y : V} {u v : Value} {Q : Bool → Hp → Prop} (F : FnOk X.prog X.w X.K X.mg X.base CX n f fd ps sp) (hb : Binds X.K fd ps []) (hx : Passes CX X E) (hr : Room n A) (hfr : A.frames = X.A.frames)
    (I : Inv X pins σ H s) (rx : RelV x u) (ry : RelV y v) (hsp : sp [x, y] H (fun v H' => ∃ r, v = .bl r ∧ Q r H') E) :
    wpAny (model X.prog X.w) A (call (.ref f) [u, v]) (fun v s' => ∃ r, v = .bool r ∧ ∃ H', Inv X pins σ H' s' ∧ Q r H') X.xe s := by
  have e0 : Env0 X.prog X.w X.K X.mg X.base A X.stack s H := by
    have e := I.env0
    exact ⟨by rw [hfr]; exact e.frames, e.mod, e.bs, e.bsz, e.funs, e.frf, e.hok, e.bare⟩
  have hl := F.len _ _ _ _ hsp
  have r2 : Vals [x, y] [u, v] := .cons rx (.cons ry .nil)
  refine wpAny_call (codeAny_mono (F.run A X.stack s H ⟨[u, v], []⟩ [u, v] [x, y] _ E hr e0 (by
    have := hb s [u, v] I.kIn (by simpa using hl)
    simpa using this) r2 hsp) fun r s' hq => ?_)
  match r, hq with
  | .error e, hq => exact hx pins σ H s e s' I hq
  | .ok (.ret w), hq =>
    obtain ⟨z, H', I', rz, b, ez, q⟩ := I.after hq
    subst ez
    cases rz
    exact ⟨b, rfl, H', I', q⟩
theorem op_eqOwn (F : FnOk X.prog X.w X.K X.mg X.base CX n f fd ps sp) (O : OwnE X.K C f) (hb : Binds X.K fd ps []) (hx : Passes CX X E) (hr : Room n X.A) : OpR X (compareOp .Eq) (rOwn X.K C sp E id) := by
  intro pins s σ H x y u v Q I rx ry hq
  obtain ⟨a, dx, fs, tb, rfl, ha, ty, nf, hsp⟩ := hq
  show wpAny (model X.prog X.w) X.A (richCompare .Eq u v) (EP X pins σ Q) X.xe s
  obtain ⟨P, Z, p, hv⟩ := kit_of I ry ty
  have hu : u = .ref a := rx
  subst hu
  obtain ⟨mA, J, _⟩ := ins_get I.hok ha
  obtain ⟨od, J, _⟩ := J.look
  obtain ⟨m, hF⟩ := I.fr
  refine PySem.W.cmp_K (op := .Eq) hr.units0 hF I.ok.mod.kin J (Z.ty _ _ I.kIn p) nf O.eq O.fn ?_
  refine wpAny_mono (own_callee (Q := fun r H' => Q (.bl r) H') F hb hx hr rfl I rx ry hsp) (fun w s' k => ?_) fun _ _ k => k
  obtain ⟨r, rfl, H', I', q⟩ := k
  exact ⟨.bl r, H', I', rfl, q⟩
theorem op_neOwn (F : FnOk X.prog X.w X.K X.mg X.base CX n f fd ps sp) (O : OwnE X.K C f) (hb : Binds X.K fd ps []) (hx : Passes CX X E) (hr : Room (n + 1) X.A) : OpR X (compareOp .NotEq) (rOwn X.K C sp E not) := by
  intro pins s σ H x y u v Q I rx ry hq
  obtain ⟨a, dx, fs, tb, rfl, ha, ty, nf, hsp⟩ := hq
  show wpAny (model X.prog X.w) X.A (richCompare .NotEq u v) (EP X pins σ Q) X.xe s
  obtain ⟨P, Z, p, hv⟩ := kit_of I ry ty
  have hu : u = .ref a := rx
  subst hu
  obtain ⟨mA, J, _⟩ := ins_get I.hok ha
  obtain ⟨od, J, _⟩ := J.look
  obtain ⟨m, hF⟩ := I.fr
  refine ne_K (by have := hr.un; omega) hF I.ok.mod.kin J (Z.ty _ _ I.kIn p) nf O.ne O.mro O.eq O.fn ?_
  refine wpAny_mono (own_callee (Q := fun r H' => Q (.bl (!r)) H') F hb hx hr.in1 rfl I rx ry hsp) (fun w s' k => ?_) fun _ _ k => k
  obtain ⟨r, rfl, H', I', q⟩ := k
  exact ⟨r, rfl, .bl !r, H', I', rfl, q⟩
end
end Rp
/-! str of an own instance; a comprehension over a text; repr of a number whatever runs; figures -/
namespace Rp
open PySem PySem.Spec PyProof.Rows L2
section
variable {X : Cx} {C f : Addr} {fd : FuncData} {ps : List Str} {sp : Sp} {n : Nat} {E : XK} {CX : CXT}
/-- a def of one argument, called from within a builtin -/
theorem callee1 {A : Around} {pins : List (Addr × Obj)} {σ : L2.St} {H : Hp} {s : Shared} {x : V} {u : Value} {Q : V → Hp → Prop} (F : FnOk X.prog X.w X.K X.mg X.base CX n f fd ps sp) (hb : Binds X.K fd ps []) (hx : Passes CX X E) (hr : Room n A) (hfr : A.frames = X.A.frames)
    (I : Inv X pins σ H s) (rx : RelV x u) (hsp : sp [x] H Q E) :
    wpAny (model X.prog X.w) A (call (.ref f) [u]) (fun v s' => ∃ y H', Inv X pins σ H' s' ∧ RelV y v ∧ Q y H') X.xe s := by
  have e0 : Env0 X.prog X.w X.K X.mg X.base A X.stack s H := by
    have e := I.env0
    exact ⟨by rw [hfr]; exact e.frames, e.mod, e.bs, e.bsz, e.funs, e.frf, e.hok, e.bare⟩
  have hl := F.len _ _ _ _ hsp
  have r2 : Vals [x] [u] := .cons rx .nil
  refine wpAny_call (codeAny_mono (F.run A X.stack s H ⟨[u], []⟩ [u] [x] _ E hr e0 (by
    have := hb s [u] I.kIn (by simpa using hl)
    simpa using this) r2 hsp) fun r s' hq => ?_)
  match r, hq with
  | .error e, hq => exact hx pins σ H s e s' I hq
  | .ok (.ret w), hq =>
    obtain ⟨z, H', I', rz, q⟩ := I.after hq
    exact ⟨z, H', I', rz, q⟩
/-- str(x), x of a class with its own __str__ -/
def rStrO (C : Addr) (sp : Sp) (E : XK) : List V → Hp → VK → Prop := fun vs H Q => ∃ a dx fs, vs = [.ref a] ∧ H a = some (.ins C dx fs) ∧ sp [.ref a] H (fun v H' => ∃ t, v = .str t ∧ Q (.str t) H') E
theorem cr_strO (F : FnOk X.prog X.w X.K X.mg X.base CX n f fd ps sp) (hs : PySem.W.findIn X.K (.ref C) "__str__" = some (some (.ref f))) (hf : PySem.W.isFn X.K (.ref f) = true) (hb : Binds X.K fd ps []) (hx : Passes CX X E) (hr : Room (n + 2) X.A) :
    CallR X (.type "str") (rStrO C sp E) := by
  intro pins s σ H vs us Q I r h
  obtain ⟨a, dx, fs, rfl, ha, hsp⟩ := h
  obtain ⟨u, rfl, ru⟩ := vals1 r
  have eu : u = .ref a := ru
  subst eu
  obtain ⟨mA, J, _⟩ := ins_get I.hok ha
  obtain ⟨od, J, _⟩ := J.look
  refine PySem.W.kso_call (by have := hr.un; show X.A.units + 1 + 1 < cLine; omega) I.kIn J hs hf (wpAny_mono (callee1 F hb hx hr.in1.in1 rfl I ru hsp) (fun v s' k => ?_) fun _ _ k => k)
  obtain ⟨y, H', I', ry, t, rfl, q⟩ := k
  obtain ⟨tk, rfl⟩ := ry
  exact ⟨.str t, H', I', ⟨tk, rfl⟩, q⟩
/-- repr(n), whatever guards run -/
theorem cr_reprI : CallR X (.builtin "repr") (fun vs H Q => ∃ i : Int, vs = [.int i] ∧ i.natAbs.log2 < 1920 ∧ Q (.str (Str.ofString (toString i))) H) := by
  intro pins s σ H vs us Q I r h
  obtain ⟨i, rfl, hz, q⟩ := h
  obtain ⟨u, rfl, ru⟩ := vals1 r
  obtain ⟨t, rfl⟩ := ru
  exact PySem.P.repr_of_int hz ⟨.str (Str.ofString (toString i)), H, I.tok _, ⟨s.toks, rfl⟩, q⟩
end
/-- a comprehension over a text's signs -/
theorem lc_str {x : Str} {g : TG} {tt : TT} {te : TE} {vs : List Nat} {σ : L2.St} {H1 : Hp} {D : Addr} {Qd : Hp → Prop} (Pv : Nat → Hp → Prop) (h0 : Pv 0 (upd H1 D (.lst [])))
    (hs : ∀ i c H, x.cps[i]? = some c → Pv i H → g (.str ⟨#[c]⟩) (wipe σ vs) H fun σ2 H2 => wipe σ2 vs = wipe σ vs ∧ tt σ2 H2 fun b H3 =>
      if b = true then te σ2 H3 fun y H4 => ∃ acc, H4 D = some (.lst acc) ∧ acc.length < sizeLine ∧ Pv (i + 1) (upd H4 D (.lst (acc ++ [y]))) else Pv (i + 1) H3) (hd : ∀ H, Pv x.cps.size H → Qd H) :
    ∃ W : Nat → Nat → Hp → Prop, (∃ m, W 0 m (upd H1 D (.lst []))) ∧ ∀ i m H, W i m H →
      ((Its x).stop i H ∧ Qd H) ∨ ((Its x).go i H ∧ ∃ Nx : Hp → Prop, (∀ H', Nx H' → ∃ m', m' < m ∧ W (i + 1) m' H') ∧ ∀ y H', (Its x).yld i H y H' → g y (wipe σ vs) H' fun σ2 H2 => wipe σ2 vs = wipe σ vs ∧ tt σ2 H2 fun b H3 =>
        if b = true then te σ2 H3 fun y H4 => ∃ acc, H4 D = some (.lst acc) ∧ acc.length < sizeLine ∧ Nx (upd H4 D (.lst (acc ++ [y]))) else Nx H3) := by
  refine ⟨fun i m H => m = x.cps.size - i ∧ i ≤ x.cps.size ∧ Pv i H, ⟨x.cps.size, by simp, Nat.zero_le _, h0⟩, ?_⟩
  rintro i m H ⟨rfl, hi, p⟩
  by_cases hlt : i < x.cps.size
  · refine .inr ⟨hlt, Pv (i + 1), fun H' p' => ⟨x.cps.size - (i + 1), by omega, rfl, hlt, p'⟩, fun y H' hy => ?_⟩
    obtain ⟨rfl, c, hc, rfl⟩ := hy
    exact hs i c H' hc p
  · have e : i = x.cps.size := by omega
    subst e
    exact .inl ⟨Nat.le_refl _, hd H p⟩

/-! ### figures -/
/-- a number's figures are more than k where the number is 10 ^ k and more -/
theorem numL_small : ∀ (k n : Nat), (TL.numL n).length ≤ k → n < 10 ^ k
  | 0, n, h => absurd (List.length_eq_zero_iff.mp (Nat.le_zero.mp h)) (TL.numL_ne n)
  | k + 1, n, h => by
    by_cases hn : n < 10
    · have : 1 ≤ 10 ^ k := Nat.one_le_pow _ _ (by decide)
      rw [Nat.pow_succ]
      omega
    · rw [TL.numL_step (by omega), List.length_append] at h
      have e : [48 + n % 10].length = 1 := rfl
      have ih := numL_small k (n / 10) (by omega)
      rw [Nat.pow_succ]
      omega
/-- the first figure is no nought but of 0 -/
theorem numL_head (n : Nat) : 0 < n → ∃ c r, TL.numL n = c :: r ∧ c ≠ 48 := by
  induction n using Nat.strongRecOn with
  | _ n ih =>
    intro h0
    by_cases h : n < 10
    · exact ⟨48 + n, [], TL.numL_lt h, by omega⟩
    · obtain ⟨c, r, e, hc⟩ := ih (n / 10) (by omega) (by omega)
      exact ⟨c, r ++ [48 + n % 10], by rw [TL.numL_step (by omega), e]; rfl, hc⟩
end Rp
/-! text[::-1] -/
namespace Rp
open PySem PySem.Spec PyProof.Rows L2
def revT (z : Str) : Str := ⟨z.cps.toList.reverse.toArray⟩
theorem revT_len (z : Str) : (revT z).length = z.length := by
  show z.cps.toList.reverse.toArray.size = z.cps.size
  simp
theorem rev_pick (z : Str) : (Builtin.Str.strSliceIndices none none (-1) z.length).filterMap (z.cps[·]?) = z.cps.toList.reverse := by
  unfold Builtin.Str.strSliceIndices
  have h1 : ¬ ((-1 : Int) > 0) := by decide
  simp only [h1, if_false]
  rw [PySem.W.krv_sliceRange, PySem.W.krv_range, List.filterMap_reverse]
  exact congrArg List.reverse (PySem.W.krv_all z.cps)
def tRevS (te : TE) : TE := fun σ H Q => te σ H fun x H1 => ∃ z : Str, x = .str z ∧ z.length ≤ sizeLine ∧ Q (.str (revT z)) H1
theorem pe_revS {X : Cx} {e : Expr} {te : TE} {k : Nat} {p1 p2 p3 pos : Pos} (he : PE X e te) : PE X (.Subscript e (.Slice none none (some (.UnaryOp .USub (.Constant (.int 1) k p1) p2)) p3) pos) (tRevS te) := by
  refine ⟨fun pins s σ H Q I h => ?_⟩
  refine Subscript_ (thn (he.run pins s σ H _ I h) fun v s1 ⟨x, H1, I1, r1, q1⟩ => ?_)
  obtain ⟨z, ex, hz, q⟩ := q1
  subst ex
  obtain ⟨t, rfl⟩ := r1
  have hst : PO X (some (.UnaryOp .USub (.Constant (.int 1) k p1) p2)) (tPart (tUn (rU fun i => .int (-i)) (tC (.int 1)))) := po_some (pe_un un_neg pe_int)
  refine wpAny_Slice (thn (po_none.run pins s1 σ H1 (fun o H2 => o = none ∧ H2 = H1) I1 ⟨rfl, rfl⟩) fun vl s2 ⟨l, H2, I2, pl, el, e2⟩ => ?_)
  subst el e2
  refine thn (po_none.run pins s2 σ H2 (fun o H3 => o = none ∧ H3 = H2) I2 ⟨rfl, rfl⟩) fun vu s3 ⟨u, H3, I3, pu, eu, e3⟩ => ?_
  subst eu e3
  refine thn (hst.run pins s3 σ H3 (fun o H4 => o = some (-1) ∧ H4 = H3) I3 ⟨1, rfl, -1, rfl, rfl, rfl⟩) fun vs s4 ⟨o, H4, I4, ps, eo, e4⟩ => ?_
  subst eo e4
  have I5 : Inv X pins σ H4 { s4 with heap := s4.heap.push { cls := .type "slice", data := .fields #[vl, vu, vs] } } := I4.kept (t' := s4.toks) fun b ob q => Heap.get?_push_of_some _ q
  show wpAny (model X.prog X.w) X.A (subscriptTail e (.Slice none none (some (.UnaryOp .USub (.Constant (.int 1) k p1) p2)) p3) (.str z t) (.ref s4.heap.objs.size)) (EP X pins σ Q) X.xe { s4 with heap := s4.heap.push { cls := .type "slice", data := .fields #[vl, vu, vs] } }
  obtain ⟨l', rfl, el⟩ := IsPart.raw pl
  obtain ⟨u', rfl, eu⟩ := IsPart.raw pu
  obtain ⟨w', rfl, ew⟩ := IsPart.raw ps
  cases l' with
  | some _ => cases el
  | none =>
  cases u' with
  | some _ => cases eu
  | none =>
  cases w' with
  | none => cases ew
  | some w' =>
    obtain ⟨i, tk⟩ := w'
    have ei : i = -1 := by
      first
        | exact (Option.some.inj ew)
        | (injection ew)
        | (simpa using ew)
        | (have := ew.symm; simpa using this)
    subst ei
    refine tail_any (ops := [.str z t, .ref s4.heap.objs.size]) (typeIs_str _ _ _) F.slot_str_getitem.lookup ?_ (by with_unfolding_all rfl)
    refine wpAny_getItem_str_slice (l := none) (u := none) (st := some (-1, tk)) ⟨_, Heap.get?_push_size _ rfl, rfl, rfl⟩ rfl ?_
    show Made.post (if ((-1 : Int) == 1 && (Builtin.Str.strSliceIndices none none (-1) z.length).length == z.length) = true then Made.val (.str z t)
      else Made.str ⟨((Builtin.Str.strSliceIndices none none (-1) z.length).filterMap (z.cps[·]?)).toArray⟩) (EP X pins σ Q) _
    rw [if_neg (by simp), rev_pick]
    exact ⟨by show (revT z).length ≤ sizeLine; rw [revT_len]; exact hz, .str (revT z), H4, I5.tok _, ⟨_, rfl⟩, q⟩
end Rp
namespace K
open PySem L2 Rp
/-! ### the text by places -/
/-! ### decks -/
def DeckAt (H : Hp) (d : Addr) : Prop := ∃ a b c : Int, H d = some (.lst [.int a, .int b, .int c])

/-! ### promises -/
def spWhole (K : PySem.W.Frag) : Sp := fun vs H Q _ => ∃ n : Int, vs = [.int n] ∧ Q (.bl true) H
/-- a whole number, or not -/
def isW : V → Bool
  | .int _ => true
  | _ => false
/-- a value whose kind is known -/
def Wh (K : PySem.W.Frag) (H : Hp) (v : V) : Prop := ∃ tv b1 b2, TyX K H v tv ∧ PySem.W.kitOne K tv (.type "int") = some b1 ∧ PySem.W.kitOne K tv (.type "bool") = some b2 ∧ isW v = (b1 && !b2)
theorem wh_int {K : PySem.W.Frag} {H : Hp} {i : Int} : Wh K H (.int i) := ⟨_, true, false, .base (.int i), kit_ty (by decide +kernel), kit_ty (by decide +kernel), rfl⟩
def spWholeV (K : PySem.W.Frag) : Sp := fun vs H Q _ => ∃ v : V, vs = [v] ∧ Wh K H v ∧ Q (.bl (isW v)) H
def spDeck : Sp := fun vs H Q _ => ∃ n : Int, vs = [.int n] ∧ ∀ p, H p = none → ∀ H', DeckAt H' p → (∀ b, b ≠ p → H' b = H b) → Q (.ref p) H'
def spDraw : Sp := fun vs H Q _ => ∃ (d : Addr) (m : Int), vs = [.ref d, .int m] ∧ 0 < m ∧ m < 1073741824 ∧ DeckAt H d ∧ ∀ r : Int, 0 ≤ r → r < m → ∀ H', DeckAt H' d → (∀ b, b ≠ d → H' b = H b) → Q (.int r) H'

/-- what the built-in names hold -/
structure Blt (mg : Str → Option Value) : Prop where
  isi : mg "isinstance" = none
  int : mg "int" = none
  bool : mg "bool" = none

section
variable {P : Program} {w : World} {K : PySem.W.Frag} {mg : Str → Option Value} {base : Heap}
theorem FnOk.ints {n : Nat} {f : Addr} {fd : FuncData} {x : Str} (F : FnOk P w K mg base CX0 n f fd [x] (spWholeV K)) : FnOk P w K mg base CX0 n f fd [x] (spWhole K) :=
  F.imp fun vs H Q E h => let ⟨i, e, q⟩ := h; ⟨.int i, e, wh_int, q⟩
end
section
variable {P : Program} {w : World} {K : PySem.W.Frag} {mg : Str → Option Value} {base : Heap}
theorem ix3 {a b c : V} : atI [a, b, c] (0 : Int) = some a ∧ atI [a, b, c] (1 : Int) = some b ∧ atI [a, b, c] (2 : Int) = some c := ⟨rfl, rfl, rfl⟩
end
/-! ### the law's own gcd -/
theorem gcd_turn {c d : Int} (hc : 0 ≤ c) (hd : 0 ≤ d) : Int.gcd d (c % d) = Int.gcd c d := by
  obtain ⟨m, rfl⟩ := Int.eq_ofNat_of_zero_le hc
  obtain ⟨n, rfl⟩ := Int.eq_ofNat_of_zero_le hd
  show Nat.gcd n (m % n) = Nat.gcd m n
  rw [Nat.gcd_comm n, ← Nat.gcd_rec, Nat.gcd_comm]
def spDiv : Sp := fun vs H Q _ => ∃ a b : Int, vs = [.int a, .int b] ∧ 0 ≤ a ∧ 0 ≤ b ∧ Q (.int (Int.gcd a b : Nat)) H
section
variable {P : Program} {w : World} {K : PySem.W.Frag} {mg : Str → Option Value} {base : Heap}
end
/-! ### sizes -/
/-- below 2 ^ m in size -/
def Sz (m : Nat) (x : Int) : Prop := x.natAbs < 2 ^ m
theorem Sz.mono {a b : Nat} {x : Int} (h : Sz a x) (hab : a ≤ b) : Sz b x := Nat.lt_of_lt_of_le h (Nat.pow_le_pow_right (by decide) hab)
theorem Sz.mul {a b : Nat} {x y : Int} (hx : Sz a x) (hy : Sz b y) : Sz (a + b) (x * y) := wide_lt hx hy
theorem Sz.add {a : Nat} {x y : Int} (hx : Sz a x) (hy : Sz a y) : Sz (a + 1) (x + y) := by
  have h := Int.natAbs_add_le x y
  unfold Sz at *
  rw [Nat.pow_succ]
  omega
theorem Sz.sub {a : Nat} {x y : Int} (hx : Sz a x) (hy : Sz a y) : Sz (a + 1) (x - y) := by
  have h := Int.natAbs_sub_le x y
  unfold Sz at *
  rw [Nat.pow_succ]
  omega
theorem Sz.div {a : Nat} {x : Int} (hx : Sz a x) (y : Int) : Sz a (x / y) := Nat.lt_of_le_of_lt (Int.natAbs_ediv_le_natAbs x y) hx
theorem Sz.log {a : Nat} {x : Int} (hx : Sz a x) (h0 : 0 < a) : x.natAbs.log2 < a := PySem.Flt.log2_lt_of h0 hx
theorem Sz.mulOk {a b : Nat} {x y : Int} (hx : Sz a x) (hy : Sz b y) (h0 : 0 < a) (h1 : 0 < b) (h : a + b ≤ 1000000) : CMulW x y := wide_mul hx hy h0 h1 h
theorem gcd_pos {t b : Int} (hb : 0 < b) : 0 < ((Int.gcd t b : Nat) : Int) := by
  have : Int.gcd t b ≠ 0 := fun z => by
    have := Int.gcd_eq_zero_iff.mp z
    omega
  omega
theorem gcd_le {t b : Int} (hb : 0 < b) : ((Int.gcd t b : Nat) : Int) ≤ b := by
  have h := Int.gcd_dvd_right t b
  exact Int.le_of_dvd hb h
theorem Sz.gcd {a : Nat} {t b : Int} (h : Sz a b) (hb : 0 < b) : Sz a ((Int.gcd t b : Nat) : Int) := by
  have h1 := gcd_le (t := t) hb
  have h2 := gcd_pos (t := t) hb
  unfold Sz at *
  omega

/-! ### Weights -/
theorem tb_ : ¬ (("top" : Str) = "bottom") := by decide +kernel
theorem bt_ : ¬ (("bottom" : Str) = "top") := by decide +kernel
/-- a Weight's fields, as __init__ stores them -/
def wf (t b : Int) : List (Str × V) := putF "bottom" (.int b) (putF "top" (.int t) [])
theorem wf_top (t b : Int) : (wf t b).lookup ("top" : Str) = some (.int t) := by
  unfold wf
  rw [lookup_putF, if_neg tb_, lookup_putF, if_pos rfl]
theorem wf_bottom (t b : Int) : (wf t b).lookup ("bottom" : Str) = some (.int b) := by
  unfold wf
  rw [lookup_putF, if_pos rfl]
theorem wf_no (t b : Int) {m : Str} (h1 : ¬ m = "top") (h2 : ¬ m = "bottom") : (wf t b).lookup m = none := by
  unfold wf
  rw [lookup_putF, if_neg h2, lookup_putF, if_neg h1]
  all_goals rfl
/-- a Weight t / b stands at p -/
def WAt (C : Addr) (H : Hp) (p : Addr) (t b : Int) : Prop := ∃ dx, H p = some (.ins C dx (wf t b))
theorem WAt.same {C : Addr} {H H' : Hp} {p : Addr} {t b : Int} (h : WAt C H p t b) (e : Same H H') : WAt C H' p t b := let ⟨dx, h⟩ := h; ⟨dx, e _ _ h⟩
theorem same_make {H : Hp} {x dx C : Addr} {fs : List (Str × V)} (nx : H x = none) (ndx : H dx = none) : Same H (upd (upd (upd H dx (.own x)) x (.ins C dx [])) x (.ins C dx fs)) := fun b o e => by
  rw [upd_ne (ne_of_none e nx), upd_ne (ne_of_none e nx), upd_ne (ne_of_none e ndx)]
  exact e

/-- what the top holds of the class Weight, at C -/
structure WTxt (K : PySem.W.Frag) (mg : Str → Option Value) (C fW : Addr) : Prop where
  cl : Cls K C
  nT : NoAttr K C "top"
  nB : NoAttr K C "bottom"
  mgC : mg "Weight" = some (.ref C)
  mgW : mg "is_whole" = some (.ref fW)
  kpW : PySem.W.keepIn K (.ref fW) = true
  gcd : mg "gcd" = some (.builtin "math.gcd")

def spInit (C : Addr) : Sp := fun vs H Q _ => ∃ (p dx : Addr) (t b : Int), vs = [.ref p, .int t, .int b] ∧ H p = some (.ins C dx []) ∧ 0 ≤ t ∧ 0 < b ∧ Sz 8000 b ∧
  Q .non (upd H p (.ins C dx (wf (t / (Int.gcd t b : Nat)) (b / (Int.gcd t b : Nat)))))

/-- as FunD.ok, of a def that lets nothing out -/
theorem FunD_ok0 {P : Program} {w : World} {K : PySem.W.Frag} {mg : Str → Option Value} {base : Heap} {x qual : Str} {params : Arguments} {body : List Stmt} {scope : Scope} {dvs : List V} {kws : List (Str × V)} {f : Addr} {fd : FuncData} {N ps : List Str} {k : Nat} {sp : Sp}
    (F : FunD K x qual params body scope dvs kws f fd) (S : FnScope N ps scope) (len : ∀ vs H Q E, sp vs H Q E → vs.length = ps.length)
    (hbody : ∀ (cdv : Value) (A : Around) (outer : List PySem.Env) (s : Shared) (H : Hp) (vs : List V) (Q : VK) (E : XK), Room k (A.deeper (PyProof.Rows.envOfC qual scope s.heap.objs.size f cdv)) → sp vs H Q E →
      ∃ t, PSs (cxOf CX0 P w K mg base N qual scope f cdv A outer s H E).nox body t ∧ t { nx := fun _ H' => Q .non H', rt := Q } (start N vs) H) : FnOk P w K mg base CX0 (k + 1) f fd ps sp :=
  F.ok S len fun cdv A outer s H vs Q E hr h => let ⟨t, h1, h2⟩ := hbody cdv A outer s H vs Q E hr h; ⟨t, h1.nox, h2⟩

section
variable {P : Program} {w : World} {K : PySem.W.Frag} {mg : Str → Option Value} {base : Heap}
end
/-- a Weight's numbers, below 2 ^ m -/
structure Wn (m : Nat) (t b : Int) : Prop where
  t0 : 0 ≤ t
  b0 : 0 < b
  tz : Sz m t
  bz : Sz m b
theorem Wn.mono {m n : Nat} {t b : Int} (h : Wn m t b) (hm : m ≤ n) : Wn n t b := ⟨h.t0, h.b0, h.tz.mono hm, h.bz.mono hm⟩
/-- lowest terms -/
def lowT (t b : Int) : Int := t / ((Int.gcd t b : Nat) : Int)
def lowB (t b : Int) : Int := b / ((Int.gcd t b : Nat) : Int)
theorem Wn.low {m : Nat} {t b : Int} (h : Wn m t b) : Wn m (lowT t b) (lowB t b) := by
  have hg := gcd_pos (t := t) h.b0
  have hd := Int.gcd_dvd_right t b
  refine ⟨Int.ediv_nonneg h.t0 (Int.le_of_lt hg), ?_, h.tz.div _, h.bz.div _⟩
  exact Int.ediv_pos_of_pos_of_dvd h.b0 (Int.le_of_lt hg) hd

/-- a def of the module, as its callers want it -/
structure Cl (K : PySem.W.Frag) (mg : Str → Option Value) (x : Str) (f : Addr) (fd : FuncData) (ps : List Str) : Prop where
  g : mg x = some (.ref f)
  k : PySem.W.keepIn K (.ref f) = true
  b : Binds K fd ps []
/-- what isinstance asks of an own class's instance -/
structure WIns (K : PySem.W.Frag) (C : Addr) : Prop where
  ha : PySem.W.findIn K (.ref C) "__class__" = some (some (.builtin "object.__class__"))
  hn : PySem.W.specialIn K (.builtin "object.__class__") "__get__" = some (some (.builtin "getset_descriptor.__get__"))
  htk : PySem.W.takesIn K (.builtin "object.__class__") = some true
  hm : PySem.W.mroIn K C (.type "object") = some true
theorem kit_self {K : PySem.W.Frag} {C : Addr} : PySem.W.kitOne K (.ref C) (.ref C) = some true := by
  unfold PySem.W.kitOne
  rw [if_pos (by simp)]

def spLow : Sp := fun vs H Q _ => ∃ t b : Int, vs = [.int t, .int b] ∧ 0 ≤ t ∧ 0 < b ∧ Sz 8000 b ∧ ∀ p, H p = none → Q (.ref p) (upd H p (.tup [.int (lowT t b), .int (lowB t b)]))
/-- _law_is of a Weight that is what it should be -/
def spIs (C : Addr) : Sp := fun vs H Q _ => ∃ (p : Addr) (t b : Int), vs = [.ref p, .int t, .int b] ∧ 0 ≤ t ∧ 0 < b ∧ Sz 8000 b ∧ WAt C H p (lowT t b) (lowB t b) ∧ ∀ H', Same H H' → Q (.bl true) H'

section
variable {P : Program} {w : World} {K : PySem.W.Frag} {mg : Str → Option Value} {base : Heap}
end
/-- all but d is kept, what is free was free -/
structure Fw (d : Addr) (H H' : Hp) : Prop where
  kp : ∀ q o, q ≠ d → H q = some o → H' q = some o
  nn : ∀ p, H' p = none → H p = none
theorem Fw.refl (d : Addr) (H : Hp) : Fw d H H := ⟨fun _ _ _ h => h, fun _ h => h⟩
theorem Fw.trans {d : Addr} {H H1 H2 : Hp} (a : Fw d H H1) (b : Fw d H1 H2) : Fw d H H2 := ⟨fun q o n h => b.kp q o n (a.kp q o n h), fun p h => a.nn p (b.nn p h)⟩
theorem Fw.draw {d : Addr} {H H' : Hp} (h : DeckAt H' d) (e : ∀ b, b ≠ d → H' b = H b) : Fw d H H' := ⟨fun q o n h => (e q n).trans h, fun p hp => by
  by_cases z : p = d
  · obtain ⟨_, _, _, h⟩ := h
    rw [z, h] at hp
    cases hp
  · rw [← e p z]; exact hp⟩
theorem Fw.upd {d p : Addr} {H : Hp} {o : HO} (hp : H p = none) : Fw d H (upd H p o) := ⟨fun q u n h => by rw [upd_ne (ne_of_none h hp)]; exact h, fun q h => by
  by_cases z : q = p
  · rw [z, upd_same] at h; cases h
  · rw [upd_ne z] at h; exact h⟩
theorem Fw.same {d : Addr} {H H' : Hp} (e : Same H H') : (∀ p, H' p = none → H p = none) := fun p h => by
  cases q : H p with
  | none => rfl
  | some o => rw [e p o q] at h; cases h
theorem Fw.of_same {d : Addr} {H H' : Hp} (e : Same H H') : Fw d H H' := ⟨fun q o _ h => e q o h, Fw.same (d := d) e⟩
theorem DeckAt.upd {d p : Addr} {H : Hp} {o : HO} (h : DeckAt H d) (hp : H p = none) : DeckAt (upd H p o) d := by
  obtain ⟨a, b, c, h⟩ := h
  exact ⟨a, b, c, by rw [upd_ne (ne_of_none h hp)]; exact h⟩
theorem DeckAt.same {d : Addr} {H H' : Hp} (h : DeckAt H d) (e : Same H H') : DeckAt H' d := let ⟨a, b, c, h⟩ := h; ⟨a, b, c, e _ _ h⟩
theorem DeckAt.ne {d p : Addr} {H : Hp} (h : DeckAt H d) (hp : H p = none) : p ≠ d := fun z => by
  obtain ⟨_, _, _, h⟩ := h
  rw [z, h] at hp
  cases hp

theorem tYes_of {σ : L2.St} {H : Hp} {Q : Bool → Hp → Prop} (h : Q true H) : tYes σ H Q := h

def spTwo : Sp := fun vs H Q _ => ∃ d : Addr, vs = [.ref d] ∧ DeckAt H d ∧ ∀ (p : Addr) (t b : Int) (H' : Hp), 0 ≤ t → t ≤ 1000000000000 → 0 < b → b ≤ 1000000000000 → H p = none → H' p = some (.tup [.int t, .int b]) → DeckAt H' d → Fw d H H' → Q (.ref p) H'

section
variable {P : Program} {w : World} {K : PySem.W.Frag} {mg : Str → Option Value} {base : Heap}
end
/-- a number's text -/
def nT (n : Int) : Str := Str.ofString (toString n)
theorem nT_len {n : Int} (h : Sz 1600 n) : (nT n).length ≤ 1601 := by
  unfold nT
  rw [ofString_length]
  exact int_text_length_le (by decide) (h.log (by decide))
theorem append_len (x y : Str) : (x ++ y).length = x.length + y.length := strLen_append x y
theorem join_one (x : Str) : Txt.join "" [x] = x := rfl
/-- a Weight's text by repr -/
def wT (t b : Int) : Str := if b = 1 then Str.empty ++ "Weight(" ++ nT t ++ ")" else Str.empty ++ "Weight(" ++ nT t ++ ", " ++ nT b ++ ")"
theorem wT_len {t b : Int} (ht : Sz 1600 t) (hb : Sz 1600 b) : (wT t b).length ≤ 4000 := by
  have h1 := nT_len ht
  have h2 := nT_len hb
  have e1 : ("Weight(" : Str).length = 7 := by decide +kernel
  have e2 : (")" : Str).length = 1 := by decide +kernel
  have e3 : (", " : Str).length = 2 := by decide +kernel
  have e4 : (Str.empty : Str).length = 0 := by decide +kernel
  unfold wT
  split <;> simp only [append_len] <;> omega

def spShow : Sp := fun vs H Q _ => ∃ n : Int, vs = [.int n] ∧ 0 ≤ n ∧ Sz 1600 n ∧ ∀ H', Same H H' → Q (.str (nT n)) H'
def spRepr (C : Addr) : Sp := fun vs H Q _ => ∃ (p : Addr) (t b : Int), vs = [.ref p] ∧ WAt C H p t b ∧ Wn 1600 t b ∧ ∀ H', Same H H' → Q (.str (wT t b)) H'

section
variable {P : Program} {w : World} {K : PySem.W.Frag} {mg : Str → Option Value} {base : Heap}
end
theorem same_upd {H : Hp} {p : Addr} {o : HO} (hp : H p = none) : Same H (upd H p o) := fun y u e => by
  rw [upd_ne (ne_of_none e hp)]
  exact e
/-- an exception's class without an __init__ of its own -/
structure XTxt (K : PySem.W.Frag) (mg : Str → Option Value) (x : Str) (C : Addr) (bm : List Value) (newId : String) : Prop where
  g : mg x = some (.ref C)
  q : PySem.W.excIn K C bm newId = true
  k : PySem.W.keepIn K (.ref C) = true
  b : PySem.W.subIn K (.ref C) (.type "BaseException") = some true
  t : PySem.W.typeIn K (.ref C) = some (.type "type")
abbrev bmZ : List Value := [.type "ZeroDivisionError", .type "ArithmeticError", .type "Exception", .type "BaseException", .type "object"]
abbrev bmV : List Value := [.type "ValueError", .type "Exception", .type "BaseException", .type "object"]
def good (x y : V) : Prop := ∃ t b : Int, x = .int t ∧ y = .int b ∧ 0 ≤ t ∧ 0 < b
def spInitV (K : PySem.W.Frag) (C NZ NW : Addr) : Sp := fun vs H Q E => ∃ (p dx : Addr) (x y : V), vs = [.ref p, x, y] ∧ H p = some (.ins C dx []) ∧ Wh K H x ∧ Wh K H y ∧
  (y = .int 0 → E (.ref NZ) none H) ∧ (y ≠ .int 0 → ¬ good x y → E (.ref NW) none H) ∧
  (∀ t b : Int, x = .int t → y = .int b → 0 ≤ t → 0 < b → Sz 8000 b ∧ Q .non (upd H p (.ins C dx (wf (t / (Int.gcd t b : Nat)) (b / (Int.gcd t b : Nat))))))
theorem isW_int {v : V} (h : isW v = true) : ∃ i, v = .int i := by
  cases v <;> first | exact ⟨_, rfl⟩ | cases h
section
variable {P : Program} {w : World} {K : PySem.W.Frag} {mg : Str → Option Value} {base : Heap}
end
/-- the module's x is a class; b: whether S is below it -/
def IsC (K : PySem.W.Frag) (mg : Str → Option Value) (S : Addr) (x : Str) (b : Bool) : Prop := ∃ A, mg x = some (.ref A) ∧ PySem.W.kitOne K (.ref S) (.ref A) = some b
/-- what the marks ask of the error's class S -/
structure MTxt (K : PySem.W.Frag) (mg : Str → Option Value) (S : Addr) : Prop where
  e : ExcC K S
  i : mg "isinstance" = none
  c1 : IsC K mg S "NoName" false
  c2 : IsC K mg S "NoGrains" false
  c3 : IsC K mg S "NoDay" false
  c4 : IsC K mg S "NoWeight" true
  c5 : IsC K mg S "NoDeed" false
  c6 : IsC K mg S "NoRow" false
  c7 : IsC K mg S "NoText" false
  c8 : IsC K mg S "Unknown" false
  c9 : IsC K mg S "Unborne" false
  d1 : IsC K mg S "Twice" false
  d2 : IsC K mg S "TooLate" false
  d3 : IsC K mg S "NoSum" false
  d4 : IsC K mg S "Full" false
  d5 : IsC K mg S "NotAlike" false
  k : IsC K mg S "CaskError" true
  w : IsC K mg S "Wrong" true
  v : mg "ValueError" = none
  kv : PySem.W.kitOne K (.ref S) (.type "ValueError") = some true
theorem HasD.same {H H' : Hp} {d : Option Addr} (h : HasD H d) (e : Same H H') : HasD H' d := h.imp id fun ⟨dx, fs, h1, h2⟩ => ⟨dx, fs, h1, e _ _ h2⟩
def spMarks (S : Addr) : SpE := fun a cls d vs H Q _ => ∃ b : Bool, vs = [.ref a, .bl b] ∧ cls = .ref S ∧ HasD H d ∧ ∀ (m : Addr) (H' : Hp), Same H H' → H m = none → H' m = some (.lst [.bl b, .bl true, .bl true, .int 1]) → Q (.ref m) H'
section
variable {P : Program} {w : World} {K : PySem.W.Frag} {mg : Str → Option Value} {base : Heap}
end
section
variable {P : Program} {w : World} {K : PySem.W.Frag} {mg : Str → Option Value} {base : Heap}
end
/-! things of any kind: what repr tells of them is settled, their kinds are known -/
def Asc (z : Str) : Prop := ∀ c ∈ z.cps.toList, c < 128
theorem asc_lit (x : Str) (h : x.cps.toList.all (fun c => decide (c < 128)) = true) : Asc x := fun c hc => of_decide_eq_true (List.all_eq_true.mp h c hc)
inductive Th (C : Addr) (H : Hp) : Nat → Nat → List Addr → V → Prop where
  | non {n L as} : 4 ≤ L → Th C H n L as .non
  | bl {n L as} (b : Bool) : 5 ≤ L → Th C H n L as (.bl b)
  | int {n L as} {i : Int} : Sz 1600 i → 1601 ≤ L → Th C H n L as (.int i)
  | str {n L as} {x : Str} : Asc x → x.length ≤ 10000 → (reprText x).length ≤ L → (reprText x).length ≤ sizeLine → Th C H n L as (.str x)
  | wt {n L as p t b} : 3 ≤ n → p ∈ as → WAt C H p t b → Wn 1600 t b → 4000 ≤ L → Th C H n L as (.ref p)
  | tup {n L n' L' as as' a xs} : H a = some (.tup xs) → a ∉ as → (∀ v ∈ xs, Th C H n L as v) → n + 2 ≤ n' → xs.length * (L + 2) + 3 ≤ L' → (∀ b, b ∈ a :: as → b ∈ as') → Th C H n' L' as' (.ref a)
  | lst {n L n' L' as as' a xs} : H a = some (.lst xs) → a ∉ as → (∀ v ∈ xs, Th C H n L as v) → n + 2 ≤ n' → xs.length * (L + 2) + 3 ≤ L' → (∀ b, b ∈ a :: as → b ∈ as') → Th C H n' L' as' (.ref a)
  | dic {n L n' L' as as' a} {kvs : List (Key × V)} : H a = some (.dK kvs) → a ∉ as → (∀ kv ∈ kvs, Th C H n L as (kV kv.1)) → (∀ kv ∈ kvs, Th C H n L as kv.2) → n + 2 ≤ n' → kvs.length * (2 * L + 4) + 3 ≤ L' → (∀ b, b ∈ a :: as → b ∈ as') → Th C H n' L' as' (.ref a)
section
variable {C : Addr} {H H' : Hp} {n L m M : Nat} {as as' : List Addr} {v : V}
theorem Th.mono (h : Th C H n L as v) (h1 : n ≤ m) (h2 : L ≤ M) (h3 : ∀ b ∈ as, b ∈ as') : Th C H m M as' v := by
  cases h with
  | non q => exact .non (Nat.le_trans q h2)
  | bl b q => exact .bl b (Nat.le_trans q h2)
  | int i q => exact .int i (Nat.le_trans q h2)
  | str a l q z => exact .str a l (Nat.le_trans q h2) z
  | wt a b c d e => exact .wt (Nat.le_trans a h1) (h3 _ b) c d (Nat.le_trans e h2)
  | tup a b c d e f => exact .tup a b c (Nat.le_trans d h1) (Nat.le_trans e h2) fun x q => h3 _ (f x q)
  | lst a b c d e f => exact .lst a b c (Nat.le_trans d h1) (Nat.le_trans e h2) fun x q => h3 _ (f x q)
  | dic a b c c' d e f => exact .dic a b c c' (Nat.le_trans d h1) (Nat.le_trans e h2) fun x q => h3 _ (f x q)
theorem Th.congr (h : Th C H n L as v) : (∀ b ∈ as, ∀ o, H b = some o → H' b = some o) → Th C H' n L as v := by
  induction h with
  | non q => exact fun _ => .non q
  | bl b q => exact fun _ => .bl b q
  | int i q => exact fun _ => .int i q
  | str a l q z => exact fun _ => .str a l q z
  | wt a b c d e => exact fun x => .wt a b (let ⟨dx, hc⟩ := c; ⟨dx, x _ b _ hc⟩) d e
  | tup a b c d e f ih => exact fun x => .tup (x _ (f _ List.mem_cons_self) _ a) b (fun v hv => ih v hv fun y hy => x y (f y (List.mem_cons_of_mem _ hy))) d e f
  | lst a b c d e f ih => exact fun x => .lst (x _ (f _ List.mem_cons_self) _ a) b (fun v hv => ih v hv fun y hy => x y (f y (List.mem_cons_of_mem _ hy))) d e f
  | dic a b c c' d e f ih1 ih2 => exact fun x => .dic (x _ (f _ List.mem_cons_self) _ a) b (fun v hv => ih1 v hv fun y hy => x y (f y (List.mem_cons_of_mem _ hy))) (fun v hv => ih2 v hv fun y hy => x y (f y (List.mem_cons_of_mem _ hy))) d e f
end
/-! its text -/
theorem pick {α : Type} {p : α → Str → Prop} : ∀ xs : List α, (∀ v ∈ xs, ∃ t, p v t) → ∃ ts : List Str, ts.length = xs.length ∧ (∀ t ∈ ts, ∃ v, v ∈ xs ∧ p v t) ∧ ∀ (i : Nat) (x : α), xs[i]? = some x → ∃ t, ts[i]? = some t ∧ p x t
  | [], _ => ⟨[], rfl, fun t ht => (nomatch ht), fun i x h => by cases h⟩
  | x :: xs, h => by
    obtain ⟨t, ht⟩ := h x List.mem_cons_self
    obtain ⟨ts, h1, h2, h3⟩ := pick xs fun v hv => h v (List.mem_cons_of_mem _ hv)
    refine ⟨t :: ts, by rw [List.length_cons, List.length_cons, h1], fun u hu => ?_, fun i y hy => ?_⟩
    · rcases List.mem_cons.mp hu with rfl | hu
      · exact ⟨x, List.mem_cons_self, ht⟩
      · obtain ⟨v, hv, q⟩ := h2 u hu
        exact ⟨v, List.mem_cons_of_mem _ hv, q⟩
    · cases i with
      | zero => cases hy; exact ⟨t, rfl, ht⟩
      | succ i => exact h3 i y hy
theorem piled_le {B : Nat} : ∀ ts : List Str, (∀ t ∈ ts, t.length ≤ B) → piled ts ≤ ts.length * (B + 2)
  | [], _ => Nat.le_of_eq (by simp [piled])
  | t :: ts, h => by
    have ih := piled_le ts fun u hu => h u (List.mem_cons_of_mem _ hu)
    have h0 := h t List.mem_cons_self
    rw [piled_cons, List.length_cons, Nat.add_mul]
    omega
theorem join_le {B : Nat} {ts : List Str} (h : ∀ t ∈ ts, t.length ≤ B) : (Str.join ", " ts).length ≤ ts.length * (B + 2) := by
  have hp := piled_le ts h
  by_cases e : ts = []
  · subst e
    exact Nat.zero_le _
  · have := join_length_add ts e
    omega
theorem tupleText_le {B : Nat} {ts : List Str} (h : ∀ t ∈ ts, t.length ≤ B) : (tupleText ts).length ≤ ts.length * (B + 2) + 3 := by
  have hj := join_le h
  unfold tupleText
  rw [strLen_append, strLen_append]
  have e1 : ((("(" : String) : Str)).length = 1 := rfl
  have e3 : (((if ts.length == 1 then ",)" else ")" : String) : Str)).length ≤ 2 := by split <;> decide
  omega
theorem dictText_le {B : Nat} {ts : List Str} (h : ∀ t ∈ ts, t.length ≤ B) : (dictText ts).length ≤ ts.length * (B + 2) + 3 := by
  have hj := join_le h
  unfold dictText
  rw [strLen_append, strLen_append]
  have e1 : ((("{" : String) : Str)).length = 1 := rfl
  have e3 : ((("}" : String) : Str)).length = 1 := rfl
  omega
theorem sum_piled : ∀ ts : List Str, (ts.map (·.length)).sum + 2 * ts.length = piled ts
  | [] => rfl
  | t :: ts => by
    have ih := sum_piled ts
    rw [piled_cons, List.map_cons, List.sum_cons, List.length_cons]
    omega
theorem listText_le {B : Nat} {ts : List Str} (h : ∀ t ∈ ts, t.length ≤ B) : (listText ts).length ≤ ts.length * (B + 2) + 3 := by
  have hp := piled_le ts h
  have h1 := textFrom_len_le ts 0 "["
  have h2 := sum_piled ts
  unfold listText
  rw [strLen_append]
  have e1 : ((("[" : String) : Str)).length = 1 := rfl
  have e3 : ((("]" : String) : Str)).length = 1 := rfl
  omega
section
variable {P : Program} {w : World} {K : PySem.W.Frag} {mg : Str → Option Value} {base : Heap}
/-- what is asked of a context -/
structure Ctx (X : Cx) (P : Program) (w : World) (K : PySem.W.Frag) (mg : Str → Option Value) (base : Heap) : Prop where
  p : X.prog = P
  w : X.w = w
  K : X.K = K
  mg : X.mg = mg
  base : X.base = base
/-- v's text is t, wherever the parts named as stand -/
def Tells (P : Program) (w : World) (K : PySem.W.Frag) (mg : Str → Option Value) (base : Heap) (n L : Nat) (as : List Addr) (H : Hp) (v : V) (t : Str) : Prop :=
  t.length ≤ L ∧ ∀ X : Cx, Ctx X P w K mg base → ∀ H', (∀ b ∈ as, ∀ o, H b = some o → H' b = some o) → Says X n as H' v t
theorem Th.tells {C fR : Addr} {fd : FuncData} (aR : PySem.W.findIn K (.ref C) "__repr__" = some (some (.ref fR))) (iR : PySem.W.isFn K (.ref fR) = true) (bR : Binds K fd ["self"] []) (GR : FnOk P w K mg base CX0 2 fR fd ["self"] (spRepr C))
    {H : Hp} {n L : Nat} {as : List Addr} {v : V} (h : Th C H n L as v) : ∃ t, Tells P w K mg base n L as H v t := by
  induction h with
  | non q => exact ⟨("None" : String), q, fun X _ H' _ => says_non.mono (Nat.zero_le _) fun _ z => nomatch z⟩
  | bl b q => exact ⟨(if b then "True" else "False" : String), by cases b <;> first | exact q | exact Nat.le_trans (by decide) q, fun X _ H' _ => (says_bl b).mono (Nat.zero_le _) fun _ z => nomatch z⟩
  | @int n L as i z q =>
    refine ⟨_, Nat.le_trans (nT_len z) q, fun X _ H' _ => (says_int (Nat.lt_trans (z.log (by decide)) (by decide))).mono (Nat.zero_le _) fun _ z => nomatch z⟩
  | str a l q z => exact ⟨_, q, fun X _ H' _ => (says_str z).mono (Nat.zero_le _) fun _ z => nomatch z⟩
  | @wt n L as p t b hn hm hw nn q =>
    refine ⟨wT t b, Nat.le_trans (wT_len nn.tz nn.bz) q, fun X c H' e => ?_⟩
    obtain ⟨rfl, rfl, rfl, rfl, rfl⟩ := c
    obtain ⟨dx, hp⟩ := hw
    refine (says_own (t := wT t b) GR aR iR bR pass0 (e p hm _ hp) fun H1 s1 => ?_).mono hn fun _ z => nomatch z
    exact ⟨p, t, b, rfl, ⟨dx, s1 _ _ (e p hm _ hp)⟩, nn, fun H2 s2 => ⟨rfl, s2⟩⟩
  | @tup n L n' L' as as' a xs h1 h2 h3 h4 h5 h6 ih =>
    obtain ⟨ts, e1, e2, e3⟩ := pick (p := fun v t => Tells P w K mg base n L as H v t) xs ih
    refine ⟨tupleText ts, Nat.le_trans (tupleText_le (B := L) fun t ht => let ⟨_, _, q⟩ := e2 t ht; q.1) (by rw [e1]; exact h5), fun X c H' e => ?_⟩
    refine (says_tup (n := n) (as := as) (ts := ts) (SqT.of (e a (h6 a List.mem_cons_self) _ h1)) h2 e1 fun i x hx => ?_).mono h4 h6
    obtain ⟨t, ht, q⟩ := e3 i x hx
    exact ⟨t, ht, q.2 X c H' fun b hb => e b (h6 b (List.mem_cons_of_mem _ hb))⟩
  | @lst n L n' L' as as' a xs h1 h2 h3 h4 h5 h6 ih =>
    obtain ⟨ts, e1, e2, e3⟩ := pick (p := fun v t => Tells P w K mg base n L as H v t) xs ih
    refine ⟨listText ts, Nat.le_trans (listText_le (B := L) fun t ht => let ⟨_, _, q⟩ := e2 t ht; q.1) (by rw [e1]; exact h5), fun X c H' e => ?_⟩
    refine (says_lst (n := n) (as := as) (ts := ts) (SqL.of (e a (h6 a List.mem_cons_self) _ h1)) h2 e1 fun i x hx => ?_).mono h4 h6
    obtain ⟨t, ht, q⟩ := e3 i x hx
    exact ⟨t, ht, q.2 X c H' fun b hb => e b (h6 b (List.mem_cons_of_mem _ hb))⟩
  | @dic n L n' L' as as' a kvs h1 h2 h3 h3' h4 h5 h6 ih1 ih2 =>
    obtain ⟨ts, e1, e2, e3⟩ := pick (p := fun (kv : Key × V) t => ∃ t1 t2 : Str, t = t1 ++ ": " ++ t2 ∧ Tells P w K mg base n L as H (kV kv.1) t1 ∧ Tells P w K mg base n L as H kv.2 t2) kvs fun kv hk => by
      obtain ⟨t1, q1⟩ := ih1 kv hk
      obtain ⟨t2, q2⟩ := ih2 kv hk
      exact ⟨_, t1, t2, rfl, q1, q2⟩
    have l2 : ((": " : String) : Str).length = 2 := rfl
    refine ⟨dictText ts, Nat.le_trans (dictText_le (B := 2 * L + 2) fun t ht => ?_) (by rw [e1]; exact h5), fun X c H' e => ?_⟩
    · obtain ⟨_, _, t1, t2, rfl, q1, q2⟩ := e2 t ht
      rw [strLen_append, strLen_append]
      have := q1.1
      have := q2.1
      omega
    · refine (says_dict (n := n) (as := as) (ts := ts) (kvs := kvs) (e a (h6 a List.mem_cons_self) _ h1) h2 fun od => ⟨e1, fun i k v hkv => ?_⟩).mono h4 h6
      obtain ⟨t, ht, t1, t2, rfl, q1, q2⟩ := e3 i (k, v) hkv
      have up : ∀ b ∈ as, ∀ o, H b = some o → (upd H' a (.frz od (.dK kvs))) b = some o := fun b hb o ho => by
        rw [upd_ne (fun z : b = a => h2 (z ▸ hb))]
        exact e b (h6 b (List.mem_cons_of_mem _ hb)) o ho
      exact ⟨t1, t2, ht, q1.2 X c _ up, q2.2 X c _ up⟩
/-- its kind -/
theorem Th.wh {C : Addr} {H : Hp} {n L : Nat} {as : List Addr} {v : V} (h : Th C H n L as v) (cl : Cls K C) (N : WIns K C) (ki : PySem.W.kitOne K (.ref C) (.type "int") = some false) (kb : PySem.W.kitOne K (.ref C) (.type "bool") = some false) : Wh K H v := by
  cases h with
  | non q => exact ⟨_, false, false, .base .non, kit_ty (by decide +kernel), kit_ty (by decide +kernel), rfl⟩
  | bl b q => exact ⟨_, true, true, .base (.bl b), kit_ty (by decide +kernel), kit_ty (by decide +kernel), rfl⟩
  | int i q => exact wh_int
  | str a l q z => exact ⟨_, false, false, .base (.str _), kit_ty (by decide +kernel), kit_ty (by decide +kernel), rfl⟩
  | wt a b c d e =>
    obtain ⟨dx, hp⟩ := c
    exact ⟨_, false, false, .base (.ins hp cl N.ha N.hn N.htk N.hm), ki, kb, rfl⟩
  | tup a b c d e f => exact ⟨_, false, false, .base (.tup a), kit_ty (by decide +kernel), kit_ty (by decide +kernel), rfl⟩
  | lst a b c d e f => exact ⟨_, false, false, .base (.lst a), kit_ty (by decide +kernel), kit_ty (by decide +kernel), rfl⟩
  | dic a b c c' d e f => exact ⟨_, false, false, .base (.dK a), kit_ty (by decide +kernel), kit_ty (by decide +kernel), rfl⟩
end
/-! a thing that doesn't speak of the deck d -/
def Od (C d : Addr) (N M : Nat) (H : Hp) (v : V) : Prop := ∃ as, d ∉ as ∧ (∀ b ∈ as, H b ≠ none) ∧ Th C H N M as v
section
variable {C d : Addr} {H H' : Hp} {N M N' M' : Nat} {v : V}
theorem Od.fw {C d : Addr} {H H' : Hp} {N M : Nat} {v : V} (h : Od C d N M H v) (f : Fw d H H') : Od C d N M H' v := by
  obtain ⟨as, h1, h2, h3⟩ := h
  refine ⟨as, h1, fun b hb z => h2 b hb (f.nn b z), h3.congr fun b hb o ho => f.kp b o (fun z => h1 (z ▸ hb)) ho⟩
theorem Od.same (h : Od C d N M H v) (e : Same H H') : Od C d N M H' v := h.fw (Fw.of_same e)
theorem Od.mono (h : Od C d N M H v) (h1 : N ≤ N') (h2 : M ≤ M') : Od C d N' M' H v := by
  obtain ⟨as, a, b, c⟩ := h
  exact ⟨as, a, b, c.mono h1 h2 fun _ z => z⟩
theorem od_non (h : 4 ≤ M) : Od C d N M H .non := ⟨[], List.not_mem_nil, (fun b hb => nomatch hb), .non h⟩
theorem od_bl {b : Bool} (h : 5 ≤ M) : Od C d N M H (.bl b) := ⟨[], List.not_mem_nil, (fun b hb => nomatch hb), .bl b h⟩
theorem od_int {i : Int} (z : Sz 1600 i) (h : 1601 ≤ M) : Od C d N M H (.int i) := ⟨[], List.not_mem_nil, (fun b hb => nomatch hb), .int z h⟩
theorem od_str {x : Str} (a : Asc x) (l : x.length ≤ 10000) (h : (reprText x).length ≤ M) (z : (reprText x).length ≤ sizeLine) : Od C d N M H (.str x) := ⟨[], List.not_mem_nil, (fun b hb => nomatch hb), .str a l h z⟩
theorem od_wt {p : Addr} {t b : Int} (h : WAt C H p t b) (n : Wn 1600 t b) (nd : p ≠ d) (h1 : 3 ≤ N) (h2 : 4000 ≤ M) : Od C d N M H (.ref p) := by
  refine ⟨[p], fun z => nd (List.mem_singleton.mp z).symm, fun b hb e => ?_, .wt h1 List.mem_cons_self h n h2⟩
  obtain ⟨dx, hp⟩ := h
  rw [List.mem_singleton.mp hb, hp] at e
  cases e
/-- several at once -/
theorem od_all {xs : List V} (h : ∀ v ∈ xs, Od C d N M H v) : ∃ as, d ∉ as ∧ (∀ b ∈ as, H b ≠ none) ∧ ∀ v ∈ xs, Th C H N M as v := by
  induction xs with
  | nil => exact ⟨[], List.not_mem_nil, fun b hb => (nomatch hb), fun v hv => nomatch hv⟩
  | cons x xs ih =>
    obtain ⟨as, a1, a2, a3⟩ := ih fun v hv => h v (List.mem_cons_of_mem _ hv)
    obtain ⟨bs, b1, b2, b3⟩ := h x List.mem_cons_self
    refine ⟨bs ++ as, fun z => (List.mem_append.mp z).elim b1 a1, fun b hb => (List.mem_append.mp hb).elim (b2 b) (a2 b), fun v hv => ?_⟩
    rcases List.mem_cons.mp hv with rfl | hv
    · exact b3.mono (Nat.le_refl _) (Nat.le_refl _) fun b hb => List.mem_append_left _ hb
    · exact (a3 v hv).mono (Nat.le_refl _) (Nat.le_refl _) fun b hb => List.mem_append_right _ hb
theorem od_tup {a : Addr} {xs : List V} (ha : H a = none) (nd : a ≠ d) (h : ∀ v ∈ xs, Od C d N M H v) (h1 : N + 2 ≤ N') (h2 : xs.length * (M + 2) + 3 ≤ M') : Od C d N' M' (upd H a (.tup xs)) (.ref a) := by
  obtain ⟨as, a1, a2, a3⟩ := od_all h
  have na : a ∉ as := fun z => a2 a z ha
  have up : ∀ b ∈ as, ∀ o, H b = some o → (upd H a (.tup xs)) b = some o := fun b hb o ho => by
    rw [upd_ne (fun z : b = a => na (z ▸ hb))]
    exact ho
  refine ⟨a :: as, fun z => (List.mem_cons.mp z).elim (fun z => nd z.symm) a1, fun b hb z => ?_, .tup upd_same na (fun v hv => (a3 v hv).congr up) h1 h2 fun b hb => hb⟩
  by_cases e : b = a
  · rw [e, upd_same] at z
    cases z
  · rw [upd_ne e] at z
    exact a2 b ((List.mem_cons.mp hb).resolve_left e) z
theorem od_lst {a : Addr} {xs : List V} (ha : H a = none) (nd : a ≠ d) (h : ∀ v ∈ xs, Od C d N M H v) (h1 : N + 2 ≤ N') (h2 : xs.length * (M + 2) + 3 ≤ M') : Od C d N' M' (upd H a (.lst xs)) (.ref a) := by
  obtain ⟨as, a1, a2, a3⟩ := od_all h
  have na : a ∉ as := fun z => a2 a z ha
  have up : ∀ b ∈ as, ∀ o, H b = some o → (upd H a (.lst xs)) b = some o := fun b hb o ho => by
    rw [upd_ne (fun z : b = a => na (z ▸ hb))]
    exact ho
  refine ⟨a :: as, fun z => (List.mem_cons.mp z).elim (fun z => nd z.symm) a1, fun b hb z => ?_, .lst upd_same na (fun v hv => (a3 v hv).congr up) h1 h2 fun b hb => hb⟩
  by_cases e : b = a
  · rw [e, upd_same] at z
    cases z
  · rw [upd_ne e] at z
    exact a2 b ((List.mem_cons.mp hb).resolve_left e) z
theorem od_dic {a : Addr} {kvs : List (Key × V)} (ha : H a = none) (nd : a ≠ d) (h : ∀ kv ∈ kvs, Od C d N M H kv.2 ∧ ∃ k : Int, kv.1 = .inl k ∧ Sz 1600 k) (hM : 1601 ≤ M) (h1 : N + 2 ≤ N') (h2 : kvs.length * (2 * M + 4) + 3 ≤ M') : Od C d N' M' (upd H a (.dK kvs)) (.ref a) := by
  obtain ⟨as, a1, a2, a3⟩ := od_all (xs := kvs.map (·.2)) fun v hv => by
    obtain ⟨kv, hk, rfl⟩ := List.mem_map.mp hv
    exact (h kv hk).1
  have na : a ∉ as := fun z => a2 a z ha
  have up : ∀ b ∈ as, ∀ o, H b = some o → (upd H a (.dK kvs)) b = some o := fun b hb o ho => by
    rw [upd_ne (fun z : b = a => na (z ▸ hb))]
    exact ho
  refine ⟨a :: as, fun z => (List.mem_cons.mp z).elim (fun z => nd z.symm) a1, fun b hb z => ?_, .dic upd_same na (fun kv hk => ?_) (fun kv hk => (a3 _ (List.mem_map.mpr ⟨kv, hk, rfl⟩)).congr up) h1 h2 fun b hb => hb⟩
  · by_cases e : b = a
    · rw [e, upd_same] at z
      cases z
    · rw [upd_ne e] at z
      exact a2 b ((List.mem_cons.mp hb).resolve_left e) z
  · obtain ⟨_, k, ek, zk⟩ := h kv hk
    rw [ek]
    exact .int zk hM
end
theorem al0 {p : V → Prop} : ∀ v ∈ ([] : List V), p v := fun _ h => nomatch h
theorem al {p : V → Prop} {x : V} {xs : List V} (h : p x) (t : ∀ v ∈ xs, p v) : ∀ v ∈ x :: xs, p v := fun v hv => (List.mem_cons.mp hv).elim (fun e => e ▸ h) (t v)
theorem at_in {xs : List V} {q : Int} (h0 : 0 ≤ q) (h1 : q < (xs.length : Int)) : ∃ v, atI xs q = some v ∧ v ∈ xs := by
  have h2 : q.toNat < xs.length := by omega
  have e : xs[q.toNat]? = some xs[q.toNat] := List.getElem?_eq_getElem h2
  refine ⟨_, ?_, List.getElem_mem h2⟩
  have e2 := atI_nat e
  rwa [Int.toNat_of_nonneg h0] at e2
def spOdd (C : Addr) : Sp := fun vs H Q _ => ∃ d : Addr, vs = [.ref d] ∧ DeckAt H d ∧ ∀ (v : V) (H' : Hp), Od C d 20 300000 H' v → DeckAt H' d → Fw d H H' → Q v H'
def Ld : Nat → Nat
  | 0 => 1601
  | n + 1 => 2 * Ld n + 7
theorem Ld_big : ∀ n, 1601 ≤ Ld n
  | 0 => Nat.le_refl _
  | n + 1 => by
    have := Ld_big n
    show 1601 ≤ 2 * Ld n + 7
    omega
section
variable {P : Program} {w : World} {K : PySem.W.Frag} {mg : Str → Option Value} {base : Heap}
end
def WhS (K : PySem.W.Frag) (H : Hp) (v : V) : Prop := ∀ H', Same H H' → Wh K H' v
theorem WhS.same {K : PySem.W.Frag} {H H' : Hp} {v : V} (h : WhS K H v) (e : Same H H') : WhS K H' v := fun H2 e2 => h H2 (e.trans e2)
def spHeard (K : PySem.W.Frag) (C : Addr) : Sp := fun vs H Q _ => ∃ x y : V, vs = [x, y] ∧ WhS K H x ∧ WhS K H y ∧
  (y = .int 0 → ∀ (r m : Addr) (H' : Hp), Same H H' → H' r = some (.lst [.non, .ref m]) → H' m = some (.lst [.str "whole", .bl true, .bl false]) → Q (.ref r) H') ∧
  (y ≠ .int 0 → ¬ good x y → ∀ (r m n : Addr) (H' : Hp), Same H H' → H' r = some (.lst [.non, .ref m]) → H' m = some (.lst [.str "weight", .bl true, .ref n]) → H' n = some (.lst [.bl true, .bl true, .bl true, .int 1]) → Q (.ref r) H') ∧
  (∀ t b : Int, x = .int t → y = .int b → 0 ≤ t → 0 < b → Sz 8000 b ∧ ∀ (r m p : Addr) (H' : Hp), Same H H' → H' r = some (.lst [.ref p, .ref m]) → H' m = some (.lst []) → WAt C H' p (lowT t b) (lowB t b) → Q (.ref r) H')
section
variable {P : Program} {w : World} {K : PySem.W.Frag} {mg : Str → Option Value} {base : Heap}
end
/-- two things that are told of -/
def Pr (C : Addr) (H : Hp) (x y : V) : Prop := ∃ as, (∀ b ∈ as, H b ≠ none) ∧ Th C H 20 300000 as x ∧ Th C H 20 300000 as y
def spRight (C : Addr) : Sp := fun vs H Q _ => ∃ x y : V, vs = [x, y] ∧ Pr C H x y ∧ ∀ H', Same H H' → Q (.bl true) H'
theorem Th.small {C : Addr} {H : Hp} {n L : Nat} {as : List Addr} {i : Int} (h : Th C H n L as (.int i)) : Sz 1600 i := by
  cases h with
  | int z _ => exact z
section
variable {P : Program} {w : World} {K : PySem.W.Frag} {mg : Str → Option Value} {base : Heap}
theorem pair_says {X : Cx} {H H' : Hp} {as : List Addr} {x y : V} {tx ty : Str} {p : Addr} (c : Ctx X P w K mg base) (h1 : Tells P w K mg base 20 300000 as H x tx) (h2 : Tells P w K mg base 20 300000 as H y ty) (e : Same H H') (hb : ∀ b ∈ as, H b ≠ none) (hp : H' p = none) :
    Says X 22 (p :: as) (upd H' p (.tup [x, y])) (.ref p) (tupleText [tx, ty]) := by
  have e2 : ∀ b ∈ as, ∀ o, H b = some o → (upd H' p (.tup [x, y])) b = some o := fun b _ o ho => same_upd hp _ _ (e _ _ ho)
  refine says_tup (n := 20) (ts := [tx, ty]) (SqT.of upd_same) (fun z => ?_) rfl fun i v hv => ?_
  · have := hb p z
    exact this (Fw.same (d := p) e p hp)
  · match i, hv with
    | 0, hv => cases hv; exact ⟨tx, rfl, h1.2 X c _ e2⟩
    | 1, hv => cases hv; exact ⟨ty, rfl, h2.2 X c _ e2⟩
    | i + 2, hv => cases hv
end
/-- pairs of things -/
def PrsO (C d : Addr) (H : Hp) (xs : List V) : Prop := ∀ v ∈ xs, ∃ (a : Addr) (x y : V), v = .ref a ∧ a ≠ d ∧ H a = some (.tup [x, y]) ∧ Od C d 20 300000 H x ∧ Od C d 20 300000 H y
/-- pairs of things that are no objects -/
def PrsA (C d : Addr) (H : Hp) (xs : List V) : Prop := ∀ v ∈ xs, ∃ (a : Addr) (x y : V), v = .ref a ∧ a ≠ d ∧ H a = some (.tup [x, y]) ∧ (∀ H, Od C d 20 300000 H x) ∧ (∀ H, Od C d 20 300000 H y)
section
variable {C d : Addr} {H H' : Hp} {xs ys : List V} {a : Addr} {x y : V}
theorem PrsO.fw (h : PrsO C d H xs) (f : Fw d H H') : PrsO C d H' xs := fun v hv => let ⟨a, x, y, h1, h2, h3, h4, h5⟩ := h v hv; ⟨a, x, y, h1, h2, f.kp a _ h2 h3, h4.fw f, h5.fw f⟩
theorem PrsO.add (h : PrsO C d H xs) (ha : H a = none) (nd : a ≠ d) (ox : Od C d 20 300000 H x) (oy : Od C d 20 300000 H y) : PrsO C d (upd H a (.tup [x, y])) (xs ++ [.ref a]) := fun v hv => by
  have f := Fw.upd (d := d) (o := .tup [x, y]) ha
  rcases List.mem_append.mp hv with z | z
  · exact h.fw f v z
  · exact ⟨a, x, y, List.mem_singleton.mp z, nd, upd_same, ox.fw f, oy.fw f⟩
theorem PrsO.cat (h : PrsO C d H xs) (h2 : PrsO C d H ys) : PrsO C d H (xs ++ ys) := fun v hv => (List.mem_append.mp hv).elim (h v) (h2 v)
theorem PrsA.fw (h : PrsA C d H xs) (f : Fw d H H') : PrsA C d H' xs := fun v hv => let ⟨a, x, y, h1, h2, h3, h4, h5⟩ := h v hv; ⟨a, x, y, h1, h2, f.kp a _ h2 h3, h4, h5⟩
theorem PrsA.add (h : PrsA C d H xs) (ha : H a = none) (nd : a ≠ d) (ox : ∀ H, Od C d 20 300000 H x) (oy : ∀ H, Od C d 20 300000 H y) : PrsA C d (upd H a (.tup [x, y])) (xs ++ [.ref a]) := fun v hv => by
  have f := Fw.upd (d := d) (o := .tup [x, y]) ha
  rcases List.mem_append.mp hv with z | z
  · exact h.fw f v z
  · exact ⟨a, x, y, List.mem_singleton.mp z, nd, upd_same, ox, oy⟩
theorem PrsA.cat (h : PrsA C d H xs) (h2 : PrsA C d H ys) : PrsA C d H (xs ++ ys) := fun v hv => (List.mem_append.mp hv).elim (h v) (h2 v)
theorem PrsA.write {l : Addr} {zs us : List V} (h : PrsA C d H xs) (hl : H l = some (.lst zs)) : PrsA C d (upd H l (.lst us)) xs := fun v hv => by
  obtain ⟨a, x, y, h1, h2, h3, h4, h5⟩ := h v hv
  refine ⟨a, x, y, h1, h2, ?_, h4, h5⟩
  rw [upd_ne (fun z => by rw [z, hl] at h3; cases h3)]
  exact h3
theorem PrsA.o (h : PrsA C d H xs) : PrsO C d H xs := fun v hv => let ⟨a, x, y, h1, h2, h3, h4, h5⟩ := h v hv; ⟨a, x, y, h1, h2, h3, h4 _, h5 _⟩
end
theorem Fw.at {d l : Addr} {H H' : Hp} {o : HO} (f : Fw d H H') (h0 : H l = none) : Fw d H (L2.upd H' l o) := ⟨fun q u n h => by
  rw [upd_ne (ne_of_none h h0)]
  exact f.kp q u n h, fun q h => by
  by_cases z : q = l
  · rw [z, upd_same] at h
    cases h
  · rw [upd_ne z] at h
    exact f.nn q h⟩
def spPairs (C : Addr) : Sp := fun vs H Q _ => ∃ d : Addr, vs = [.ref d] ∧ DeckAt H d ∧ ∀ (l : Addr) (xs : List V) (H' : Hp), DeckAt H' d → Fw d H H' → H' l = some (.lst xs) → PrsO C d H' xs → Q (.ref l) H'
section
variable {P : Program} {w : World} {K : PySem.W.Frag} {mg : Str → Option Value} {base : Heap}
end
def spLaw (K : PySem.W.Frag) : Sp := fun vs H Q _ => ∃ (a : Addr) (ns : List Int), vs = [.ref a] ∧ SqL K H a (ns.map V.int) ∧ ns.length ≤ 63 ∧ ∀ H', Q (.bl true) H'
theorem pr_of {C d : Addr} {H : Hp} {x y : V} (h1 : Od C d 20 300000 H x) (h2 : Od C d 20 300000 H y) : Pr C H x y := by
  obtain ⟨as, _, a2, a3⟩ := od_all (al (p := fun v => Od C d 20 300000 H v) h1 (al h2 al0))
  exact ⟨as, a2, a3 x (by simp), a3 y (by simp)⟩
section
variable {P : Program} {w : World} {K : PySem.W.Frag} {mg : Str → Option Value} {base : Heap}
end
def TOk (v : V) : Prop := ∀ z, v = .str z → Asc z ∧ z.length ≤ 10000
theorem Th.tok {C : Addr} {H : Hp} {n L : Nat} {as : List Addr} {v : V} (h : Th C H n L as v) : TOk v := fun z e => by
  subst e
  cases h with
  | str a l _ _ => exact ⟨a, l⟩
theorem Od.tok {C d : Addr} {N M : Nat} {H : Hp} {v : V} (h : Od C d N M H v) : TOk v := let ⟨_, _, _, t⟩ := h; t.tok
end K
/-! texts of plain signs -/
namespace K
open PySem PySem.Spec PyProof.Rows L2 Rp
theorem asc_app {x y : Str} (h1 : Asc x) (h2 : Asc y) : Asc (x ++ y) := fun c hc => by
  have e : (x ++ y).cps.toList = x.cps.toList ++ y.cps.toList := TL.tl_append x y
  rw [e] at hc
  exact (List.mem_append.mp hc).elim (h1 c) (h2 c)
theorem asc_cut {z : Str} (h : Asc z) (lo hi : Option Int) : Asc (cutS z lo hi) := fun c hc => by
  unfold cutS at hc
  exact h c (List.mem_of_mem_drop (List.mem_of_mem_take (by simpa using hc)))
theorem asc_rev {z : Str} (h : Asc z) : Asc (revT z) := fun c hc => by
  unfold revT at hc
  exact h c (by simpa using hc)
theorem up_asc : ∀ c, c < 128 → ∀ x ∈ Unicode.upperOf c, x < 128 := by decide +kernel
theorem asc_upper {z : Str} (h : Asc z) : Asc (Txt.upper z) := fun c hc => by
  unfold Txt.upper placed at hc
  have hc : ∃ l, (∃ a, (∃ (i : Nat) (h : i < z.cps.size), (Unicode.upperOf z.cps[i]).toArray = a) ∧ a.toList = l) ∧ c ∈ l := by simpa using hc
  obtain ⟨_, ⟨_, ⟨i, hi, rfl⟩, rfl⟩, hm⟩ := hc
  have hd := h (z.cps[i]) (by simp)
  exact up_asc _ hd c (by simpa using hm)
theorem asc_one {c : Nat} (h : c < 128) : Asc ⟨#[c]⟩ := fun d hd => by
  have : d = c := by simpa using hd
  omega
theorem join_cons (x y : Str) (r : List Str) : Txt.join "" (x :: y :: r) = x ++ "" ++ Txt.join "" (y :: r) := by
  rw [TL.join_eq, TL.join_eq]
  rfl
theorem join_asc : ∀ ys : List Str, (∀ y ∈ ys, Asc y) → Asc (Txt.join "" ys)
  | [], _ => by rw [TL.join_eq]; exact asc_lit _ (by decide +kernel)
  | [x], h => by rw [TL.join_eq]; exact h x List.mem_cons_self
  | x :: y :: r, h => by
    rw [join_cons]
    exact asc_app (asc_app (h x List.mem_cons_self) (asc_lit _ (by decide +kernel))) (join_asc (y :: r) fun u hu => h u (List.mem_cons_of_mem _ hu))
theorem join_len1 : ∀ ys : List Str, (∀ y ∈ ys, y.length = 1) → (Txt.join "" ys).length = ys.length
  | [], _ => by rw [TL.join_eq]; rfl
  | [x], h => by rw [TL.join_eq]; exact h x List.mem_cons_self
  | x :: y :: r, h => by
    have e0 : ("" : Str).length = 0 := by decide +kernel
    rw [join_cons, append_len, append_len, e0, h x List.mem_cons_self, join_len1 (y :: r) fun u hu => h u (List.mem_cons_of_mem _ hu)]
    show 1 + 0 + (y :: r).length = (y :: r).length + 1
    omega
theorem sum_ones : ∀ ys : List Str, (∀ y ∈ ys, y.length = 1) → (ys.map (·.length)).sum = ys.length
  | [], _ => rfl
  | y :: ys, h => by
    rw [List.map_cons, List.sum_cons, sum_ones ys fun u hu => h u (List.mem_cons_of_mem _ hu), h y List.mem_cons_self, List.length_cons]
    omega
theorem od_text {C d : Addr} {N : Nat} {H : Hp} {z : Str} (h : Asc z) (hl : z.length ≤ 10000) : Od C d N 300000 H (.str z) := by
  have h1 := StrLaws.reprText_len z fun c hc => Nat.lt_trans (h c hc) (by decide)
  exact od_str h hl (Nat.le_trans h1 (by omega)) (Nat.le_trans h1 (Nat.le_trans (show _ ≤ 200000 by omega) (by decide)))
theorem tok_ref {p : Addr} : TOk (.ref p) := fun z e => by cases e
theorem tok_int {i : Int} : TOk (.int i) := fun z e => by cases e
theorem tok_bl {i : Bool} : TOk (.bl i) := fun z e => by cases e
theorem tok_non : TOk .non := fun z e => by cases e
theorem tok_str {z : Str} (h : Asc z) (hl : z.length ≤ 10000) : TOk (.str z) := fun y e => by cases e; exact ⟨h, hl⟩
/-! text * number -/
theorem op_mulS {X : Cx} : OpR X (binaryOp .Mult) (fun x y H Q => ∃ (a : Str) (n : Int), x = .str a ∧ y = .int n ∧ MulOk a n ∧ Q (.str (Txt.mul a n)) H) := by
  intro pins s σ H x y v u Q I rx ry h
  obtain ⟨a, n, rfl, rfl, hz, q⟩ := h
  obtain ⟨t, rfl⟩ := rx
  obtain ⟨t', rfl⟩ := ry
  exact SB.mul hz fun t' k => ⟨.str (Txt.mul a n), H, I.tok _, ⟨_, rfl⟩, q⟩
/-! kinds: a text or not -/
def isS : V → Bool
  | .str _ => true
  | _ => false
def Ws (K : PySem.W.Frag) (H : Hp) (v : V) : Prop := ∃ tv, TyX K H v tv ∧ PySem.W.kitOne K tv (.type "str") = some (isS v)
theorem Th.ws {K : PySem.W.Frag} {C : Addr} {H : Hp} {n L : Nat} {as : List Addr} {v : V} (h : Th C H n L as v) (cl : Cls K C) (N : WIns K C) (ks : PySem.W.kitOne K (.ref C) (.type "str") = some false) : Ws K H v := by
  cases h with
  | non q => exact ⟨_, .base .non, kit_ty (by decide +kernel)⟩
  | bl b q => exact ⟨_, .base (.bl b), (kit_ty (by decide +kernel) : PySem.W.kitOne K (.type "bool") (.type "str") = some false)⟩
  | int i q => exact ⟨_, .base (.int _), (kit_ty (by decide +kernel) : PySem.W.kitOne K (.type "int") (.type "str") = some false)⟩
  | str a l q z => exact ⟨_, .base (.str _), (kit_ty (by decide +kernel) : PySem.W.kitOne K (.type "str") (.type "str") = some true)⟩
  | wt a b c d e =>
    obtain ⟨dx, hp⟩ := c
    exact ⟨_, .base (.ins hp cl N.ha N.hn N.htk N.hm), ks⟩
  | tup a b c d e f => exact ⟨_, .base (.tup a), (kit_ty (by decide +kernel) : PySem.W.kitOne K (.type "tuple") (.type "str") = some false)⟩
  | lst a b c d e f => exact ⟨_, .base (.lst a), (kit_ty (by decide +kernel) : PySem.W.kitOne K (.type "list") (.type "str") = some false)⟩
  | dic a b c c' d e f => exact ⟨_, .base (.dK a), (kit_ty (by decide +kernel) : PySem.W.kitOne K (.type "dict") (.type "str") = some false)⟩
/-! a local name that holds one of several defs -/
def tCallV (i : Nat) (R : Addr → Sp → Prop) (t : TA) : TE := fun σ H Q => ∃ f sp, σ[i]? = some (some (.ref f)) ∧ R f sp ∧ t σ H fun vs H1 => sp vs H1 Q (fun _ _ _ => False)
theorem pe_callV {X : Cx} {k i : Nat} {x : Str} {p pos : Pos} {e : Expr} {es : List Expr} {t : TA} {R : Addr → Sp → Prop} (A : ∀ f sp, R f sp → Held X.prog X.w X.K X.mg X.base k f sp) (hr : Room k X.A) (hN : X.N[i]? = some x) (hv : Vis X.env.scope x) (ha : PA X (e :: es) t)
    (hdb : (x == ("__debug__" : Str)) = false := by decide) (hcd : (x == ("__classdict__" : Str)) = false := by decide)
    (he : starEach (e :: es) X.env = (false, eval e X.env) :: starEach es X.env := by rfl) (hpl : (backTo pos (starEach es X.env)).any (·.1) = false := by rfl) : PE X (.Call (.Name x p) (e :: es) [] pos) (tCallV i R t) := by
  refine ⟨fun pins s σ H Q I h => ?_⟩
  obtain ⟨f, sp, hs, hS, ht⟩ := h
  obtain ⟨fd, ps, F, hk, hb⟩ := (A f sp hS).ex
  refine (pe_callL (i := i) (f := f) (sp := sp) (dvs := []) (E := fun _ _ _ => False) F hr hN hv hk hb .nil (fun _ _ _ _ _ _ _ z => z.elim) ha hdb hcd he hpl).run pins s σ H Q I ⟨hs, ?_⟩
  have e0 : (fun (vs : List V) (H1 : Hp) => sp (vs ++ []) H1 Q (fun _ _ _ => False)) = fun vs H1 => sp vs H1 Q (fun _ _ _ => False) := by
    funext vs H1
    rw [List.append_nil]
  show t σ H (fun vs H1 => sp (vs ++ []) H1 Q (fun _ _ _ => False))
  rw [e0]
  exact ht
/-! one thing -/
def Pr1 (C : Addr) (H : Hp) (x : V) : Prop := ∃ as, (∀ b ∈ as, H b ≠ none) ∧ Th C H 20 300000 as x
theorem pr1_of {C d : Addr} {H : Hp} {x : V} (h : Od C d 20 300000 H x) : Pr1 C H x := let ⟨as, _, a2, a3⟩ := h; ⟨as, a2, a3⟩
theorem Pr1.same {C : Addr} {H H' : Hp} {x : V} (h : Pr1 C H x) (e : Same H H') : Pr1 C H' x := by
  obtain ⟨as, a2, a3⟩ := h
  refine ⟨as, fun b hb z => ?_, a3.congr fun b _ o ho => e b o ho⟩
  exact a2 b hb (Fw.same (d := b) e b z)
theorem Od.over {C d l : Addr} {N M : Nat} {H0 H1 : Hp} {v : V} {o : HO} (h : Od C d N M H0 v) (h0 : H0 l = none) (f : Fw d H0 H1) : Od C d N M (upd H1 l o) v := by
  obtain ⟨as, a1, a2, a3⟩ := h
  have nl : ∀ b ∈ as, b ≠ l := fun b hb z => a2 b hb (z ▸ h0)
  refine ⟨as, a1, fun b hb z => ?_, a3.congr fun b hb o ho => ?_⟩
  · rw [upd_ne (nl b hb)] at z
    exact a2 b hb (f.nn b z)
  · rw [upd_ne (nl b hb)]
    exact f.kp b o (fun z => a1 (z ▸ hb)) ho
end K
namespace K
open PySem L2 Rp
def top (i : Nat) : Stmt := PySem.Challenge.pw_casknotes_k01_names_grains_days.main.body.getD i (.Pass ⟨0, 0, 0, 0⟩)
abbrev sMade : Stmt := top 5
abbrev sShow : Stmt := top 6
abbrev sWhole : Stmt := top 11
abbrev sName : Stmt := top 12
abbrev sGrains : Stmt := top 13
abbrev sDay : Stmt := top 14
abbrev sInit : Stmt := inClass (top 21) 0
abbrev sRepr : Stmt := inClass (top 21) 3
abbrev sDeck : Stmt := top 23
abbrev sDraw : Stmt := top 24
abbrev sLWhole : Stmt := top 25
abbrev sTold : Stmt := top 26
abbrev sSign : Stmt := top 27
abbrev sOdd : Stmt := top 28
abbrev sLName : Stmt := top 29
abbrev sBent : Stmt := top 30
abbrev sLIsName : Stmt := top 31
abbrev sLIsDay : Stmt := top 32
abbrev sLIsGrains : Stmt := top 33
abbrev sThings : Stmt := top 34
abbrev sLaw : Stmt := top 35
section
variable {P : Program} {w : World} {K : PySem.W.Frag} {mg : Str → Option Value} {base : Heap}
theorem scWhole : FnScope ["thing"] ["thing"] (defScope sWhole) := ⟨rfl, rfl, rfl, by decide +kernel, rfl, by decide +kernel, by decide +kernel⟩
theorem ok_wholeV {f : Addr} {fd : FuncData} (F : Fun K "is_whole" "is_whole" sWhole f fd) (B : Blt mg) : FnOk P w K mg base CX0 1 f fd ["thing"] (spWholeV K) := by
  refine F.ok scWhole (fun vs H Q E h => ?_) (fun cdv A outer s H vs Q E hr h => ?_)
  · obtain ⟨v, rfl, _⟩ := h
    rfl
  · obtain ⟨v, rfl, ⟨tv, b1, b2, ty, k1, k2, ev⟩, k⟩ := h
    refine ⟨_, pss_one (ps_ret (pe_and (pe_callB call_isi (by rfl) B.isi (by decide +kernel) (pa_cons (pv 0) (pa_cons (pe_bltn (v := .ty "int") (by rfl) B.int (by decide +kernel) rfl) pa_nil)))
      (pe_one (pe_not (pe_callB call_isi (by rfl) B.isi (by decide +kernel) (pa_cons (pv 0) (pa_cons (pe_bltn (v := .ty "bool") (by rfl) B.bool (by decide +kernel) rfl) pa_nil))))))), ?_⟩
    refine ⟨_, rfl, _, .ty "int", _, _, b1, rfl, .ty _, ty, k1, b1, rfl, ?_⟩
    cases b1 with
    | true =>
      refine iteT ⟨_, rfl, _, .ty "bool", _, _, b2, rfl, .ty _, ty, k2, b2, rfl, ?_⟩
      rw [ev] at k
      exact k
    | false =>
      rw [ev] at k
      exact k
theorem scLWhole : FnScope ["_law_thing"] ["_law_thing"] (defScope sLWhole) := ⟨rfl, rfl, rfl, by decide +kernel, rfl, by decide +kernel, by decide +kernel⟩
theorem ok_lwholeV {f : Addr} {fd : FuncData} (F : Fun K "_law_whole" "_law_whole" sLWhole f fd) (B : Blt mg) : FnOk P w K mg base CX0 1 f fd ["_law_thing"] (spWholeV K) := by
  refine F.ok scLWhole (fun vs H Q E h => ?_) (fun cdv A outer s H vs Q E hr h => ?_)
  · obtain ⟨v, rfl, _⟩ := h
    rfl
  · obtain ⟨v, rfl, ⟨tv, b1, b2, ty, k1, k2, ev⟩, k⟩ := h
    refine ⟨_, pss_one (ps_ret (pe_and (pe_callB call_isi (by rfl) B.isi (by decide +kernel) (pa_cons (pv 0) (pa_cons (pe_bltn (v := .ty "int") (by rfl) B.int (by decide +kernel) rfl) pa_nil)))
      (pe_one (pe_not (pe_callB call_isi (by rfl) B.isi (by decide +kernel) (pa_cons (pv 0) (pa_cons (pe_bltn (v := .ty "bool") (by rfl) B.bool (by decide +kernel) rfl) pa_nil))))))), ?_⟩
    refine ⟨_, rfl, _, .ty "int", _, _, b1, rfl, .ty _, ty, k1, b1, rfl, ?_⟩
    cases b1 with
    | true =>
      refine iteT ⟨_, rfl, _, .ty "bool", _, _, b2, rfl, .ty _, ty, k2, b2, rfl, ?_⟩
      rw [ev] at k
      exact k
    | false =>
      rw [ev] at k
      exact k
theorem scDeck : FnScope ["_law_cell"] ["_law_cell"] (defScope sDeck) := ⟨rfl, rfl, rfl, by decide +kernel, rfl, by decide +kernel, by decide +kernel⟩
theorem ok_deck {f : Addr} {fd : FuncData} (F : Fun K "_law_deck" "_law_deck" sDeck f fd) (B : Blt mg) : FnOk P w K mg base CX0 1 f fd ["_law_cell"] spDeck := by
  refine F.ok scDeck (fun vs H Q E h => ?_) (fun cdv A outer s H vs Q E hr h => ?_)
  · obtain ⟨n, rfl, _⟩ := h
    rfl
  · obtain ⟨n, rfl, k⟩ := h
    refine ⟨_, pss_one (ps_ret (pe_lst (pa_cons (pe_op op_mul (pv 0) (pe_callTy call_int1 (by rfl) B.int (by decide +kernel) (pa_cons (pe_cmpR op_ge (pv 0) (pe_op op_pow pe_int pe_int) (nomark _)) pa_nil)))
      (pa_cons (pe_op op_mod (pv 0) pe_int) (pa_cons pe_int pa_nil))))), ?_⟩
    refine ⟨_, rfl, _, rfl, _, _, rfl, rfl, (by show (0:Int) ≤ 18 ∧ (18:Int) ≤ 1000000 ∧ (10:Int).natAbs < 2 ^ 64; decide), _, _, rfl, rfl, .inr ⟨_, rfl, ?_⟩⟩
    refine ⟨_, _, rfl, rfl, .inr (by split <;> decide), ?_⟩
    refine ⟨_, rfl, _, _, rfl, rfl, (by show (0:Int) < 2147483587; decide), ?_⟩
    refine ⟨(by show 3 ≤ sizeLine; decide), fun p hp => ?_⟩
    exact k p hp _ ⟨_, _, _, upd_same⟩ fun b hb => upd_ne hb
theorem scDraw : FnScope ["_law_deck_here", "_law_most", "_law_got", "_law_mixed"] ["_law_deck_here", "_law_most"] (defScope sDraw) := ⟨rfl, rfl, rfl, by decide +kernel, rfl, by decide +kernel, by decide +kernel⟩
theorem ok_draw {f : Addr} {fd : FuncData} (F : Fun K "_law_draw" "_law_draw" sDraw f fd) : FnOk P w K mg base CX0 1 f fd ["_law_deck_here", "_law_most"] spDraw := by
  refine F.ok scDraw (fun vs H Q E h => ?_) (fun cdv A outer s H vs Q E hr h => ?_)
  · obtain ⟨d, m, rfl, _⟩ := h
    rfl
  · obtain ⟨d, m, rfl, h0, h1, ⟨a, b, c, hd⟩, k⟩ := h
    refine ⟨_, pss_cons (ps_if (pt_cmpR op_gt (pe_ix ix_list (pv 0) pe_int (fun _ _ => rfl)) pe_int (nomark _))
        (pss_cons (ps_set (i := 2) scDraw.nd rfl (Or.inl rfl) (pe_op op_modN (pe_ix ix_list (pv 0) pe_int (fun _ _ => rfl)) (pv 1)))
        (pss_cons (ps_asg (pe_op op_fdivN (pe_ix ix_list (pv 0) pe_int (fun _ _ => rfl)) (pv 1)) (pg_sub (pv 0) pe_int set_list))
        (pss_one (ps_ret (pv 2))))) pss_nil)
      (pss_cons (ps_asg (pe_op op_add (pe_ix ix_list (pv 0) pe_int (fun _ _ => rfl)) pe_int) (pg_sub (pv 0) pe_int set_list))
      (pss_cons (ps_set (i := 3) scDraw.nd rfl (Or.inl rfl) (pe_op op_mod (pe_op op_mul (pe_op op_add (pe_op op_add (pe_ix ix_list (pv 0) pe_int (fun _ _ => rfl)) (pe_op op_mul pe_int (pe_ix ix_list (pv 0) pe_int (fun _ _ => rfl)))) pe_int) pe_int) pe_int))
      (pss_cons (ps_set (i := 3) scDraw.nd rfl (Or.inl rfl) (pe_op op_mod (pe_op op_add (pe_op op_add (pe_op op_mul (pv 3) (pv 3)) (pe_op op_mul pe_int (pv 3))) (pe_ix ix_list (pv 0) pe_int (fun _ _ => rfl))) pe_int))
      (pss_one (ps_ret (pe_op op_modN (pe_op op_fdiv (pe_op op_mod (pe_op op_mul (pv 3) pe_int) pe_int) pe_int) (pv 1))))))), ?_⟩
    refine ⟨_, rfl, d, _, _, _, rfl, rfl, SqL.of hd, ix3.1, _, _, rfl, rfl, _, rfl, ?_⟩
    refine ite2 (fun _ => ?_) (fun _ => ?_)
    · refine ⟨_, rfl, d, _, _, _, rfl, rfl, SqL.of hd, ix3.1, _, rfl, _, _, rfl, rfl, (by show m ≠ 0; omega), ?_⟩
      refine ⟨_, rfl, d, _, _, _, rfl, rfl, SqL.of hd, ix3.1, _, rfl, _, _, rfl, rfl, ⟨by omega, by omega⟩, ?_⟩
      refine ⟨_, rfl, d, _, _, 0, rfl, rfl, hd, rfl, ?_⟩
      refine ⟨_, rfl, ?_⟩
      exact k _ (Int.fmod_nonneg_of_pos a h0) (Int.fmod_lt_of_pos a h0) _ ⟨_, _, _, upd_same⟩ fun b hb => upd_ne hb
    · refine ⟨_, rfl, d, _, _, _, rfl, rfl, SqL.of hd, ix3.2.2, _, _, rfl, rfl, ?_⟩
      refine ⟨_, rfl, d, _, _, 2, rfl, rfl, hd, rfl, ?_⟩
      have hd2 : (upd H d (.lst ([V.int a, V.int b, V.int c].set 2 (.int (c + 1))))) d = some (.lst [.int a, .int b, .int (c + 1)]) := upd_same
      refine ⟨_, rfl, d, _, _, _, rfl, rfl, SqL.of hd2, ix3.2.1, _, rfl, d, _, _, _, rfl, rfl, SqL.of hd2, ix3.2.2, _, _, rfl, rfl, .inl (by decide), _, _, rfl, rfl, _, _, rfl, rfl, _, _, rfl, rfl, .inr (by decide), _, _, rfl, rfl, (by show (0:Int) < 2147483647; decide), ?_⟩
      refine ⟨_, rfl, _, rfl, _, _, rfl, rfl, .inl ⟨by omega, by omega⟩, _, rfl, _, _, rfl, rfl, .inl (by decide), _, _, rfl, rfl, _, rfl, d, _, _, _, rfl, rfl, SqL.of hd2, ix3.2.2, _, _, rfl, rfl, _, _, rfl, rfl, (by show (0:Int) < 2147483629; decide), ?_⟩
      refine ⟨_, rfl, _, _, rfl, rfl, .inr (by decide), _, _, rfl, rfl, (by show (0:Int) < 2147483563; decide), _, _, rfl, rfl, ⟨by decide, by decide⟩, _, rfl, _, _, rfl, rfl, (by show m ≠ 0; omega), ?_⟩
      exact k _ (Int.fmod_nonneg_of_pos _ h0) (Int.fmod_lt_of_pos _ h0) _ ⟨_, _, _, hd2⟩ fun b hb => upd_ne hb
theorem scShow : FnScope ["number", "blocks", "low"] ["number"] (defScope sShow) := ⟨rfl, rfl, rfl, by decide +kernel, rfl, by decide +kernel, by decide +kernel⟩
theorem ok_show {f : Addr} {fd : FuncData} {z : Int} {zt : Tok} (F : Fun K "show_whole" "show_whole" sShow f fd) (hst : mg "str" = none) (hrv : mg "reversed" = none) (hB : mg "BLOCK" = some (.int z zt)) (hz : (2 : Int) ^ 1600 ≤ z) :
    FnOk P w K mg base CX0 1 f fd ["number"] spShow := by
  refine F.ok scShow (fun vs H Q E h => ?_) (fun cdv A outer s H vs Q E hr h => ?_)
  · obtain ⟨n, rfl, _⟩ := h
    rfl
  · obtain ⟨n, rfl, n0, nz, k⟩ := h
    refine ⟨_, pss_cons (ps_set (i := 1) scShow.nd rfl (Or.inl rfl) (pe_lst pa_nil))
      (pss_cons (ps_while PassesOwn.never (pt_cmpR op_ge (pv 0) (pe_glob (v := .int z) rfl hB ⟨_, rfl⟩) (nomark _)) pss_never)
      (pss_cons (ps_expr (pe_bm PySem.F.plainAttrs_list PySem.F.slot_list_append PySem.F.type_list_append mt_append (pv 1) (pa_cons (pe_callTy call_str_int (by rfl) hst (by decide +kernel) (pa_cons (pv 0) pa_nil)) pa_nil)))
      (pss_one (ps_ret (pe_joinRev rfl (by rfl) hrv pe_str (pv 1)))))), ?_⟩
    refine ⟨Nat.zero_le _, fun l hl => ?_⟩
    have hlt : ¬ z ≤ n := by
      have h1 : n.natAbs < 2 ^ 1600 := nz
      have h2 : (n.natAbs : Int) = n := by omega
      have h3 : ((2 ^ 1600 : Nat) : Int) = (2 : Int) ^ 1600 := by norm_cast
      have h4 : (n.natAbs : Int) < ((2 ^ 1600 : Nat) : Int) := Int.ofNat_lt.mpr h1
      rw [h2, h3] at h4
      exact Int.not_le.mpr (Int.lt_of_lt_of_le h4 hz)
    refine while_by (fun σ H' => H' = upd H l (.lst []) ∧ σ = [some (.int n), some (.ref l), none]) (fun _ _ => 0) ⟨rfl, rfl⟩ ?_ ?_
    · rintro σ H' ⟨rfl, rfl⟩
      refine ⟨_, rfl, _, _, rfl, rfl, _, rfl, ?_⟩
      rw [decide_eq_false hlt]
      refine iteF ?_
      refine ⟨_, rfl, .inl ⟨rfl, _, SqL.of upd_same⟩, _, rfl, _, rfl, Nat.lt_trans (nz.log (by decide)) (by decide), l, _, _, rfl, rfl, upd_same, by decide, ?_⟩
      have ln := nT_len nz
      refine ⟨"", rfl, _, rfl, l, [nT n], rfl, SqL.of upd_same, ?_, ?_⟩
      · simp only [List.map_cons, List.map_nil, List.sum_cons, List.sum_nil, List.length_cons, List.length_nil]
        have e0 : ("" : Str).length = 0 := by decide +kernel
        rw [e0]
        omega
      · refine k _ fun b o e => ?_
        rw [upd_ne (ne_of_none e hl), upd_ne (ne_of_none e hl)]
        exact e
    · rintro σ H' Q1 Q2 hQ ⟨v, e, i, j, h1, h2, c, h3, q⟩
      exact ⟨v, e, i, j, h1, h2, c, h3, hQ _ _ q⟩
theorem scRepr : FnScope ["self"] ["self"] (defScope sRepr) := ⟨rfl, rfl, rfl, by decide +kernel, rfl, by decide +kernel, by decide +kernel⟩
theorem ok_repr {f C fW fS : Addr} {fd fdS : FuncData} (F : Fun K "__repr__" "Weight.__repr__" sRepr f fd) (T : WTxt K mg C fW) (cS : Cl K mg "show_whole" fS fdS ["number"]) (GS : FnOk P w K mg base CX0 1 fS fdS ["number"] spShow) :
    FnOk P w K mg base CX0 2 f fd ["self"] (spRepr C) := by
  refine F.ok scRepr (fun vs H Q E h => ?_) (fun cdv A outer s H vs Q E hr h => ?_)
  · obtain ⟨p, t, b, rfl, _⟩ := h
    rfl
  · obtain ⟨p, t, b, rfl, ⟨dx, hp⟩, n1, k⟩ := h
    refine ⟨_, pss_cons (ps_if (pt_cmpR op_eq (pe_fld (pv 0) rfl) pe_int (nomark _)) (pss_one (ps_ret (pe_joined (.cons pe_str (.cons (pe_fmt (pe_call GS hr (by rfl) cS.g cS.k cS.b .nil pass0 (pa_cons (pe_fld (pv 0) rfl) pa_nil))) (.cons pe_str .nil)))))) pss_nil)
      (pss_one (ps_ret (pe_joined (.cons pe_str (.cons (pe_fmt (pe_call GS hr (by rfl) cS.g cS.k cS.b .nil pass0 (pa_cons (pe_fld (pv 0) rfl) pa_nil))) (.cons pe_str (.cons (pe_fmt (pe_call GS hr (by rfl) cS.g cS.k cS.b .nil pass0 (pa_cons (pe_fld (pv 0) rfl) pa_nil))) (.cons pe_str .nil)))))))), ?_⟩
    have l1 := nT_len n1.tz
    have l2 := nT_len n1.bz
    have e1 : ("Weight(" : Str).length = 7 := by decide +kernel
    have e2 : (")" : Str).length = 1 := by decide +kernel
    have e3 : (", " : Str).length = 2 := by decide +kernel
    have e4 : (Str.empty : Str).length = 0 := by decide +kernel
    have big : ∀ n, n ≤ 10000 → n ≤ sizeLine := fun n h => Nat.le_trans h (by decide)
    refine ⟨_, rfl, p, C, dx, _, _, rfl, hp, T.cl, T.nB, wf_bottom _ _, rfl, _, rfl, ?_⟩
    refine ite2 (fun h => ?_) (fun h => ?_)
    · have hb : b = 1 := by
        have := of_decide_eq_true h
        injection this
      refine ⟨"Weight(", rfl, big _ (by rw [append_len]; omega), _, rfl, p, C, dx, _, _, rfl, hp, T.cl, T.nT, wf_top _ _, t, rfl, n1.t0, n1.tz, fun H1 s1 => .inl ⟨_, rfl, big _ (by omega), nT t, rfl, big _ (by simp only [append_len]; omega), ")", rfl, big _ (by simp only [append_len]; omega), ?_⟩⟩
      have ew : wT t b = Str.empty ++ "Weight(" ++ nT t ++ ")" := if_pos hb
      have q := k H1 s1
      rw [ew] at q
      exact q
    · have hb : ¬ b = 1 := fun z => h (decide_eq_true (by rw [z]))
      refine ⟨"Weight(", rfl, big _ (by rw [append_len]; omega), _, rfl, p, C, dx, _, _, rfl, hp, T.cl, T.nT, wf_top _ _, t, rfl, n1.t0, n1.tz, fun H1 s1 => .inl ⟨_, rfl, big _ (by omega), nT t, rfl, big _ (by simp only [append_len]; omega), ", ", rfl, big _ (by simp only [append_len]; omega), ?_⟩⟩
      refine ⟨_, rfl, p, C, dx, _, _, rfl, s1 _ _ hp, T.cl, T.nB, wf_bottom _ _, b, rfl, Int.le_of_lt n1.b0, n1.bz, fun H2 s2 => .inl ⟨_, rfl, big _ (by omega), nT b, rfl, big _ (by simp only [append_len]; omega), ")", rfl, big _ (by simp only [append_len]; omega), ?_⟩⟩
      have ew : wT t b = Str.empty ++ "Weight(" ++ nT t ++ ", " ++ nT b ++ ")" := if_neg hb
      have q := k H2 (s1.trans s2)
      rw [ew] at q
      exact q
end
abbrev FunI (K : PySem.W.Frag) (f : Addr) (fd : FuncData) : Prop := FunD K "__init__" "Weight.__init__" (defArgs sInit) (defBody sInit) (defScope sInit) [.int 1] [] f fd
section
variable {P : Program} {w : World} {K : PySem.W.Frag} {mg : Str → Option Value} {base : Heap}
theorem scInit : FnScope ["self", "top", "bottom", "shared"] ["self", "top", "bottom"] (defScope sInit) := ⟨rfl, rfl, rfl, by decide +kernel, rfl, by decide +kernel, by decide +kernel⟩
theorem ok_init {f C fW : Addr} {fd fdW : FuncData} (F : FunI K f fd) (T : WTxt K mg C fW) (GW : FnOk P w K mg base CX0 1 fW fdW ["thing"] (spWhole K)) (bW : Binds K fdW ["thing"] []) : FnOk P w K mg base CX0 2 f fd ["self", "top", "bottom"] (spInit C) := by
  refine FunD_ok0 F scInit (fun vs H Q E h => ?_) (fun cdv A outer s H vs Q E hr h => ?_)
  · obtain ⟨p, dx, t, b, rfl, _⟩ := h
    rfl
  · obtain ⟨p, dx, t, b, rfl, hp, ht, hb, hz, k⟩ := h
    refine ⟨_, pss_cons (ps_if (PW.pt (pw_and (pt_val (pe_call GW hr (by rfl) T.mgW T.kpW bW .nil pass0 (pa_cons (pv 2) pa_nil))) (pw_and1 (pt_cmpR op_eq (pv 2) pe_int (nomark _))))) (pss_one ps_never) pss_nil)
      (pss_cons (ps_if (PW.pt (pw_or (pt_not (pt_val (pe_call GW hr (by rfl) T.mgW T.kpW bW .nil pass0 (pa_cons (pv 1) pa_nil)))) (pw_or (pt_not (pt_val (pe_call GW hr (by rfl) T.mgW T.kpW bW .nil pass0 (pa_cons (pv 2) pa_nil))))
          (pw_or (pt_cmpR op_lt (pv 1) pe_int (nomark _)) (pw_or1 (pt_cmpR op_lt (pv 2) pe_int (nomark _))))))) (pss_one ps_never) pss_nil)
      (pss_cons (ps_set (i := 3) scInit.nd rfl (Or.inl rfl) (pe_callBfun cr_gcd (by rfl) T.gcd (pa_cons (pv 1) (pa_cons (pv 2) pa_nil))))
      (pss_cons (ps_fld (pv 0) (pe_op op_fdivW (pv 1) (pv 3)) rfl)
      (pss_one (ps_fld (pv 0) (pe_op op_fdivW (pv 2) (pv 3)) rfl))))), ?_⟩
    have hg := gcd_pos (t := t) hb
    have hgz : CDivW t ((Int.gcd t b : Nat) : Int) := ⟨hg, Nat.lt_trans ((Sz.gcd (t := t) hz hb).log (by decide)) (by decide)⟩
    have hgz' : CDivW b ((Int.gcd t b : Nat) : Int) := hgz
    refine ⟨_, rfl, b, rfl, true, rfl, iteT ⟨_, rfl, rfl, _, rfl, ?_⟩⟩
    rw [decide_eq_false (show ¬ (V.int b = V.int 0) from fun z => by cases z; omega)]
    refine iteF ?_
    refine ⟨_, rfl, t, rfl, true, rfl, iteF ⟨_, rfl, b, rfl, true, rfl, iteF ⟨_, rfl, _, _, rfl, rfl, _, rfl, ?_⟩⟩⟩
    rw [decide_eq_false (show ¬ t < 0 by omega)]
    refine iteF ⟨_, rfl, _, _, rfl, rfl, _, rfl, ?_⟩
    rw [decide_eq_false (show ¬ b < 0 by omega)]
    refine iteF ?_
    refine ⟨_, rfl, _, rfl, t, b, rfl, ?_⟩
    refine ⟨_, rfl, _, rfl, _, _, rfl, rfl, hgz, _, rfl, p, C, dx, _, rfl, hp, T.cl, T.nT, (by show 0 < 1000; decide), ?_⟩
    refine ⟨_, rfl, _, rfl, _, _, rfl, rfl, hgz', _, rfl, p, C, dx, _, rfl, upd_same, T.cl, T.nB, (by show 1 < 1000; decide), ?_⟩
    show Q .non (upd (upd H p _) p _)
    rw [upd_upd]
    exact k
theorem scOdd : FnScope ["_law_deck_here", "_law_deep", "_law_k", "_law_some"] ["_law_deck_here"] (defScope sOdd) := ⟨rfl, rfl, rfl, by decide +kernel, rfl, by decide +kernel, by decide +kernel⟩
theorem ok_odd {f C fW fI fD : Addr} {fd dI fdD : FuncData} (F : Fun K "_law_odd" "_law_odd" sOdd f fd) (T : WTxt K mg C fW) (hrg : mg "range" = none) (hln : mg "len" = none)
    (M : Mk K C fI) (GI : FnOk P w K mg base CX0 2 fI dI ["self", "top", "bottom"] (spInit C)) (bI : Binds K dI ["self", "top", "bottom"] []) {ds : List Value} (vd : Vals [V.int 1] ds) (bI1 : Binds K dI ["self", "top", "bottom"] ds)
    (cD : Cl K mg "_law_draw" fD fdD ["_law_deck_here", "_law_most"]) (GD : FnOk P w K mg base CX0 1 fD fdD ["_law_deck_here", "_law_most"] spDraw) : FnOk P w K mg base CX0 4 f fd ["_law_deck_here"] (spOdd C) := by
  refine F.ok scOdd (fun vs H Q E h => ?_) (fun cdv A outer s H vs Q E hr h => ?_)
  · obtain ⟨d, rfl, _⟩ := h
    rfl
  · obtain ⟨d, rfl, hd, k⟩ := h
    refine ⟨_, (pss_cons (ps_set (i := 1) scOdd.nd rfl (Or.inl rfl) pe_int)
    (pss_cons (ps_for PassesOwn.never rfl (pi_range1 (by rfl) hrg (pa_cons pe_int pa_nil)) (pg_name (i := 2) scOdd.nd rfl (Or.inl rfl))
      (pss_one (ps_set (i := 1) scOdd.nd rfl (Or.inl rfl) (pe_ix ix_list (pe_lst (pa_cons (pe_tup (pa_cons (pv 1) pa_nil)) (pa_cons (pe_lst (pa_cons (pv 1) pa_nil)) (pa_cons (pe_disp (pps_cons pe_int (pv 1) pps_nil) (by rfl) (by rfl) (fun z => by cases z) (by decide)) pa_nil)))) (pe_call GD (hr.mono (by decide)) (by rfl) cD.g cD.k cD.b .nil pass0 (pa_cons (pv 0) (pa_cons pe_int pa_nil))) (fun _ _ => rfl)))))
    (pss_cons (ps_set (i := 3) scOdd.nd rfl (Or.inl rfl) (pe_lst (pa_cons pe_non (pa_cons pe_bl (pa_cons pe_bl (pa_cons pe_int (pa_cons pe_int (pa_cons pe_int (pa_cons (pe_un un_neg pe_int) (pa_cons (pe_op op_pow pe_int pe_int) (pa_cons (pe_op op_sub pe_int (pe_op op_pow pe_int pe_int)) (pa_cons pe_str (pa_cons pe_str (pa_cons pe_str (pa_cons pe_str (pa_cons pe_str (pa_cons (pe_tup pa_nil) (pa_cons (pe_tup (pa_cons pe_int pa_nil)) (pa_cons (pe_tup (pa_cons pe_int (pa_cons pe_int pa_nil))) (pa_cons (pe_lst pa_nil) pa_nil))))))))))))))))))))
    (pss_cons (ps_set (i := 3) scOdd.nd rfl (Or.inl rfl) (pe_op op_cat (pv 3) (pe_lst (pa_cons (pe_lst (pa_cons pe_int pa_nil)) (pa_cons (pe_lst (pa_cons pe_str pa_nil)) (pa_cons pe_dnewK (pa_cons (pe_disp (pps_cons pe_int pe_int pps_nil) (by rfl) (by rfl) (fun z => by cases z) (by decide)) (pa_cons (pv 1) (pa_cons (pe_make M GI (hr.mono (by decide)) (by rfl) T.mgC bI1 vd pass0 (pa_cons pe_int pa_nil)) (pa_cons (pe_make M GI (hr.mono (by decide)) (by rfl) T.mgC bI .nil pass0 (pa_cons pe_int (pa_cons pe_int pa_nil))) (pa_cons (pe_tup (pa_cons (pe_make M GI (hr.mono (by decide)) (by rfl) T.mgC bI1 vd pass0 (pa_cons pe_int pa_nil)) pa_nil)) (pa_cons pe_str (pa_cons pe_str pa_nil)))))))))))))
    (pss_one (ps_ret (pe_ix ix_list (pv 3) (pe_call GD (hr.mono (by decide)) (by rfl) cD.g cD.k cD.b .nil pass0 (pa_cons (pv 0) (pa_cons (pe_callB call_len_seq (by rfl) hln PySem.boot_len (pa_cons (pv 3) pa_nil)) pa_nil))) (fun _ _ => rfl)))))))), ?_⟩
    have up : ∀ {H p o}, H p = none → Fw d H (upd H p o) := fun h => Fw.upd h
    refine ⟨6, rfl, by decide, by decide, for_range (lo := 0) (n := 6) (fun j σ H2 => ∃ v u, σ = [some (.ref d), some v, u, none] ∧ Od C d (2 * j) (Ld j) H2 v ∧ DeckAt H2 d ∧ Fw d H H2) ?_ ?_ ?_⟩
    · exact ⟨.int 0, none, rfl, od_int (by unfold Sz; decide) (Nat.le_refl _), hd, Fw.refl d H⟩
    · rintro j σ H2 hj ⟨v, u, rfl, ov, d2, f2⟩
      have lb := Ld_big j
      have h1 : 2 * j + 2 ≤ 2 * (j + 1) := by omega
      have h2 : 1 * (Ld j + 2) + 3 ≤ Ld (j + 1) := by show _ ≤ 2 * Ld j + 7; omega
      have h3 : 1 * (2 * Ld j + 4) + 3 ≤ Ld (j + 1) := by show _ ≤ 2 * Ld j + 7; omega
      refine ⟨_, rfl, (by show 1 ≤ sizeLine; decide), fun pa ha => ⟨_, rfl, (by show 1 ≤ sizeLine; decide), fun pb hb pc hc => ⟨_, rfl, upd_same, [(.inl 0, v)], rfl, (by show 1 ≤ 15; decide), (by show 3 ≤ sizeLine; decide), fun l hl => ?_⟩⟩⟩
      have em : mergeK [] [((.inl 0 : Key), v)] = [(.inl 0, v)] := rfl
      rw [upd_upd, em] at hl ⊢
      have da := d2.upd (o := .tup [v]) ha
      have db := da.upd (o := .lst [v]) hb
      have dc := db.upd (o := .dK [(.inl 0, v)]) hc
      have dl := dc.upd (o := .lst [.ref pa, .ref pb, .ref pc]) hl
      have oa := od_tup (xs := [v]) ha (d2.ne ha) (al ov al0) h1 h2
      have ob := od_lst (xs := [v]) hb (da.ne hb) (al (ov.fw (up ha)) al0) h1 h2
      have oc := od_dic (kvs := [(.inl 0, v)]) hc (db.ne hc) (fun kv hk => by
        cases List.mem_singleton.mp hk
        exact ⟨(ov.fw (up ha)).fw (up hb), 0, rfl, by unfold Sz; decide⟩) lb h1 h3
      refine ⟨_, rfl, d, 3, rfl, by decide, by decide, dl, fun q q0 q1 H3 d3 e3 => ?_⟩
      have f3 := Fw.draw d3 e3
      have all := f2.trans (((((up (o := .tup [v]) ha).trans (up (o := .lst [v]) hb)).trans (up (o := .dK [(.inl 0, v)]) hc)).trans (up (o := .lst [.ref pa, .ref pb, .ref pc]) hl)).trans f3)
      have hl3 : H3 l = some (.lst [.ref pa, .ref pb, .ref pc]) := (e3 l (dc.ne hl)).trans upd_same
      have els := al (p := Od C d (2 * (j + 1)) (Ld (j + 1)) H3) ((((oa.fw (up hb)).fw (up hc)).fw (up hl)).fw f3) (al (((ob.fw (up hc)).fw (up hl)).fw f3) (al ((oc.fw (up hl)).fw f3) al0))
      obtain ⟨x, hx, mx⟩ := at_in (xs := [.ref pa, .ref pb, .ref pc]) q0 q1
      exact ⟨l, _, _, x, rfl, rfl, SqL.of hl3, hx, x, _, rfl, els x mx, d3, all⟩
    · rintro σ H2 ⟨v, u, rfl, ov, d2, f2⟩
      have p39 : CPow (10 : Int) (39 : Int) := (by show (0:Int) ≤ 39 ∧ (39:Int) ≤ 1000000 ∧ (10:Int).natAbs < 2 ^ 64; decide)
      refine ⟨_, rfl, _, _, rfl, rfl, p39, _, _, rfl, rfl, p39, _, _, rfl, rfl, (by show 0 ≤ sizeLine; decide), fun p1 h1 => ⟨(by show 1 ≤ sizeLine; decide), fun p2 h2 => ⟨(by show 2 ≤ sizeLine; decide), fun p3 h3 => ⟨(by show 0 ≤ sizeLine; decide), fun p4 h4 => ⟨(by show 18 ≤ sizeLine; decide), fun l1 hl1 => ?_⟩⟩⟩⟩⟩
      generalize hxs1 : [V.non, V.bl true, V.bl false, V.int 0, V.int 1, V.int 2, V.int (-1), V.int (10 ^ (39 : Int).toNat), V.int (1 - 10 ^ (39 : Int).toNat), V.str "", V.str "0", V.str "a", V.str "c0", V.str "7/2", V.ref p1, V.ref p2, V.ref p3, V.ref p4] = xs1 at *
      have z0 : Sz 1600 0 := by unfold Sz; decide
      have z1 : Sz 1600 1 := by unfold Sz; decide
      have z2 : Sz 1600 2 := by unfold Sz; decide
      have d3 := d2.upd (o := .tup []) h1
      have d4 := d3.upd (o := .tup [.int 0]) h2
      have d5 := d4.upd (o := .tup [.int 1, .int 2]) h3
      have d6 := d5.upd (o := .lst []) h4
      have d7 := d6.upd (o := .lst xs1) hl1
      have o1 := od_tup (C := C) (N := 0) (M := 1601) (N' := 20) (M' := 300000) h1 (d2.ne h1) al0 (by decide) (by show 0 * (1601 + 2) + 3 ≤ 300000; decide)
      have o2 := od_tup (C := C) (N := 0) (M := 1601) (N' := 20) (M' := 300000) h2 (d3.ne h2) (al (od_int z0 (Nat.le_refl _)) al0) (by decide) (by show 1 * (1601 + 2) + 3 ≤ 300000; decide)
      have o3 := od_tup (C := C) (N := 0) (M := 1601) (N' := 20) (M' := 300000) h3 (d4.ne h3) (al (od_int z1 (Nat.le_refl _)) (al (od_int z2 (Nat.le_refl _)) al0)) (by decide) (by show 2 * (1601 + 2) + 3 ≤ 300000; decide)
      have o4 := od_lst (C := C) (N := 0) (M := 1601) (N' := 20) (M' := 300000) h4 (d5.ne h4) al0 (by decide) (by show 0 * (1601 + 2) + 3 ≤ 300000; decide)
      have oi : ∀ {H : Hp} {i : Int}, Sz 1600 i → Od C d 20 300000 H (.int i) := fun z => od_int z (by decide)
      have os : ∀ {H : Hp} {x : Str}, (x.cps.toList.all (fun c => decide (c < 128)) = true ∧ x.length ≤ 10000 ∧ (reprText x).length ≤ 100) → Od C d 20 300000 H (.str x) := fun z => od_str (asc_lit _ z.1) z.2.1 (Nat.le_trans z.2.2 (by decide)) (Nat.le_trans z.2.2 (by decide))
      have all1 : ∀ v ∈ xs1, Od C d 20 300000 (upd (upd (upd (upd (upd H2 p1 (.tup [])) p2 (.tup [.int 0])) p3 (.tup [.int 1, .int 2])) p4 (.lst [])) l1 (.lst xs1)) v := by
        rw [← hxs1]
        refine al (od_non (by decide)) (al (od_bl (by decide)) (al (od_bl (by decide)) (al (oi z0) (al (oi z1) (al (oi z2) (al (oi (by unfold Sz; decide)) (al (oi (by unfold Sz; decide +kernel)) (al (oi (by unfold Sz; decide +kernel))
          (al (os (by decide +kernel)) (al (os (by decide +kernel)) (al (os (by decide +kernel)) (al (os (by decide +kernel)) (al (os (by decide +kernel)) (al ?_ (al ?_ (al ?_ (al ?_ al0)))))))))))))))))
        all_goals rw [hxs1]
        · exact (((o1.fw (up h2)).fw (up h3)).fw (up h4)).fw (up hl1)
        · exact ((o2.fw (up h3)).fw (up h4)).fw (up hl1)
        · exact (o3.fw (up h4)).fw (up hl1)
        · exact o4.fw (up hl1)
      have len1 : xs1.length = 18 := by rw [← hxs1]; rfl
      have fA := f2.trans ((((((up (o := .tup []) h1).trans (up (o := .tup [.int 0]) h2)).trans (up (o := .tup [.int 1, .int 2]) h3)).trans (up (o := .lst []) h4)).trans (up (o := .lst xs1) hl1)))
      have ovA := (((((ov.fw (up (o := .tup []) h1)).fw (up (o := .tup [.int 0]) h2)).fw (up (o := .tup [.int 1, .int 2]) h3)).fw (up (o := .lst []) h4)).fw (up (o := .lst xs1) hl1)).mono (N' := 20) (M' := 300000) (by decide) (by decide +kernel)
      have hlA : (upd (upd (upd (upd (upd H2 p1 (.tup [])) p2 (.tup [.int 0])) p3 (.tup [.int 1, .int 2])) p4 (.lst [])) l1 (.lst xs1)) l1 = some (.lst xs1) := upd_same
      have nl1 := d6.ne hl1
      generalize upd (upd (upd (upd (upd H2 p1 (.tup [])) p2 (.tup [.int 0])) p3 (.tup [.int 1, .int 2])) p4 (.lst [])) l1 (.lst xs1) = HA at *
      clear o1 o2 o3 o4 d3 d4 d5 d6 h1 h2 h3 h4 hl1
      -- the second row
      refine ⟨_, rfl, (by show 1 ≤ sizeLine; decide), fun p5 h5 => ⟨(by show 1 ≤ sizeLine; decide), fun p6 h6 p7 h7 p8 h8 => ⟨upd_same, [(.inl 0, .int 1)], rfl, (by show 1 ≤ 15; decide), _, rfl, fun x1 dx1 nx1 ndx1 ne1 => ?_⟩⟩⟩
      have em : mergeK [] [((.inl 0 : Key), V.int 1)] = [(.inl 0, V.int 1)] := rfl
      rw [upd_upd, em] at nx1 ndx1 ⊢
      have e5 := d7.upd (o := .lst [.int 0]) h5
      have e6 := e5.upd (o := .lst [.str "a"]) h6
      have e7 := e6.upd (o := .dK []) h7
      have e8 := e7.upd (o := .dK [(.inl 0, .int 1)]) h8
      have o5 := od_lst (C := C) (N := 0) (M := 1601) (N' := 20) (M' := 300000) h5 (d7.ne h5) (al (od_int z0 (Nat.le_refl _)) al0) (by decide) (by show 1 * (1601 + 2) + 3 ≤ 300000; decide)
      have o6 := od_lst (C := C) (N := 0) (M := 1601) (N' := 20) (M' := 300000) h6 (e5.ne h6) (al (od_str (x := "a") (asc_lit _ (by decide +kernel)) (by decide +kernel) (by decide +kernel) (by decide +kernel)) al0) (by decide) (by show 1 * (1601 + 2) + 3 ≤ 300000; decide)
      have o7 := od_dic (C := C) (kvs := []) (N := 0) (M := 1601) (N' := 20) (M' := 300000) h7 (e6.ne h7) (fun _ z => nomatch z) (by decide) (by decide) (by show 0 * (2 * 1601 + 4) + 3 ≤ 300000; decide)
      have o8 := od_dic (C := C) (kvs := [(.inl 0, .int 1)]) (N := 0) (M := 1601) (N' := 20) (M' := 300000) h8 (e7.ne h8) (fun kv hk => by
        cases List.mem_singleton.mp hk
        exact ⟨od_int z1 (Nat.le_refl _), 0, rfl, z0⟩) (by decide) (by decide) (by show 1 * (2 * 1601 + 4) + 3 ≤ 300000; decide)
      have u58 := (((up (o := .lst [.int 0]) h5).trans (up (o := .lst [.str "a"]) h6)).trans (up (o := .dK []) h7)).trans (up (o := .dK [(.inl 0, .int 1)]) h8)
      have o5 := ((o5.fw (up (o := .lst [.str "a"]) h6)).fw (up (o := .dK []) h7)).fw (up (o := .dK [(.inl 0, .int 1)]) h8)
      have o6 := (o6.fw (up (o := .dK []) h7)).fw (up (o := .dK [(.inl 0, .int 1)]) h8)
      have o7 := o7.fw (up (o := .dK [(.inl 0, .int 1)]) h8)
      have ovB := ovA.fw u58
      have fB := fA.trans u58
      have hlB := u58.kp _ _ nl1 hlA
      have all1B : ∀ v ∈ xs1, Od C d 20 300000 _ v := fun v hv => (all1 v hv).fw u58
      generalize upd (upd (upd (upd HA p5 (.lst [.int 0])) p6 (.lst [.str "a"])) p7 (.dK [])) p8 (.dK [(.inl 0, V.int 1)]) = HB at *
      clear e5 e6 e7 h5 h6 h7 h8 u58 all1 hlA
      have s1 := same_make (C := C) (fs := wf (1 / ((Int.gcd 1 1 : Nat) : Int)) (1 / ((Int.gcd 1 1 : Nat) : Int))) nx1 ndx1
      have w1 : WAt C (upd (upd (upd HB dx1 (.own x1)) x1 (.ins C dx1 [])) x1 (.ins C dx1 (wf (1 / ((Int.gcd 1 1 : Nat) : Int)) (1 / ((Int.gcd 1 1 : Nat) : Int))))) x1 (lowT 1 1) (lowB 1 1) := ⟨dx1, upd_same⟩
      refine ⟨x1, dx1, 1, 1, rfl, upd_same, by decide, by decide, by unfold Sz; decide, rfl, fun x2 dx2 nx2 ndx2 ne2 => ?_⟩
      have n1 := e8.ne nx1
      have e9 := e8.same s1
      generalize upd (upd (upd HB dx1 (.own x1)) x1 (.ins C dx1 [])) x1 (.ins C dx1 (wf (1 / ((Int.gcd 1 1 : Nat) : Int)) (1 / ((Int.gcd 1 1 : Nat) : Int)))) = HC at *
      have s2 := same_make (C := C) (fs := wf (7 / ((Int.gcd 7 2 : Nat) : Int)) (2 / ((Int.gcd 7 2 : Nat) : Int))) nx2 ndx2
      have w2 : WAt C (upd (upd (upd HC dx2 (.own x2)) x2 (.ins C dx2 [])) x2 (.ins C dx2 (wf (7 / ((Int.gcd 7 2 : Nat) : Int)) (2 / ((Int.gcd 7 2 : Nat) : Int))))) x2 (lowT 7 2) (lowB 7 2) := ⟨dx2, upd_same⟩
      refine ⟨x2, dx2, 7, 2, rfl, upd_same, by decide, by decide, by unfold Sz; decide, rfl, fun x3 dx3 nx3 ndx3 ne3 => ?_⟩
      have n2 := e9.ne nx2
      have e10 := DeckAt.same e9 s2
      generalize upd (upd (upd HC dx2 (.own x2)) x2 (.ins C dx2 [])) x2 (.ins C dx2 (wf (7 / ((Int.gcd 7 2 : Nat) : Int)) (2 / ((Int.gcd 7 2 : Nat) : Int)))) = HD at *
      have s3 := same_make (C := C) (fs := wf (0 / ((Int.gcd 0 1 : Nat) : Int)) (1 / ((Int.gcd 0 1 : Nat) : Int))) nx3 ndx3
      have w3 : WAt C (upd (upd (upd HD dx3 (.own x3)) x3 (.ins C dx3 [])) x3 (.ins C dx3 (wf (0 / ((Int.gcd 0 1 : Nat) : Int)) (1 / ((Int.gcd 0 1 : Nat) : Int))))) x3 (lowT 0 1) (lowB 0 1) := ⟨dx3, upd_same⟩
      refine ⟨x3, dx3, 0, 1, rfl, upd_same, by decide, by decide, by unfold Sz; decide, rfl, (by show 1 ≤ sizeLine; decide), fun p9 h9 => ⟨(by show 10 ≤ sizeLine; decide), fun l2 hl2 => ?_⟩⟩
      have n3 := e10.ne nx3
      have e11 := DeckAt.same e10 s3
      generalize upd (upd (upd HD dx3 (.own x3)) x3 (.ins C dx3 [])) x3 (.ins C dx3 (wf (0 / ((Int.gcd 0 1 : Nat) : Int)) (1 / ((Int.gcd 0 1 : Nat) : Int)))) = HE at *
      have e12 := e11.upd (o := .tup [.ref x3]) h9
      have sm : ∀ {t b : Int}, 0 ≤ t → 0 < b → Sz 1600 t → Sz 1600 b → Wn 1600 (lowT t b) (lowB t b) := fun a b c d => Wn.low ⟨a, b, c, d⟩
      have m1 := sm (t := 1) (b := 1) (by decide) (by decide) z1 z1
      have m2 := sm (t := 7) (b := 2) (by decide) (by decide) (by unfold Sz; decide) z2
      have m3 := sm (t := 0) (b := 1) (by decide) (by decide) z0 z1
      have o9 := od_tup (C := C) (N := 3) (M := 4000) (N' := 20) (M' := 300000) h9 (e11.ne h9) (al (od_wt w3 m3 n3 (by decide) (by decide)) al0) (by decide) (by show 1 * (4000 + 2) + 3 ≤ 300000; decide)
      have g3 := up (o := .tup [.ref x3]) h9
      have gall := ((Fw.of_same (d := d) s1).trans (Fw.of_same s2)).trans ((Fw.of_same s3).trans g3)
      have q1 := ((od_wt (N := 20) (M := 300000) (d := d) w1 m1 n1 (by decide) (by decide)).fw (Fw.of_same s2)).fw ((Fw.of_same s3).trans g3)
      have q2 := (od_wt (N := 20) (M := 300000) (d := d) w2 m2 n2 (by decide) (by decide)).fw ((Fw.of_same s3).trans g3)
      have hlC := gall.kp _ _ nl1 hlB
      have fC := fB.trans gall
      have els2 := al (p := fun v => Od C d 20 300000 _ v) (o5.fw gall) (al (o6.fw gall) (al (o7.fw gall) (al (o8.fw gall) (al (ovB.fw gall) (al q1 (al q2 (al o9 (al (os (x := "\n") (by decide +kernel)) (al (os (x := "Weight(1)") (by decide +kernel)) al0)))))))))
      have els1 : ∀ v ∈ xs1, Od C d 20 300000 _ v := fun v hv => (all1B v hv).fw gall
      have nl2 := e12.ne hl2
      have e13 := e12.upd (o := .lst [.ref p5, .ref p6, .ref p7, .ref p8, v, .ref x1, .ref x2, .ref p9, .str "\n", .str "Weight(1)"]) hl2
      have g4 := up (o := .lst [.ref p5, .ref p6, .ref p7, .ref p8, v, .ref x1, .ref x2, .ref p9, .str "\n", .str "Weight(1)"]) hl2
      refine ⟨l1, l2, _, _, rfl, rfl, g4.kp _ _ nl1 hlC, upd_same, (by rw [len1]; show 18 + 10 ≤ sizeLine; decide), fun l3 hl3 => ?_⟩
      have g5 := up (o := .lst (xs1 ++ [.ref p5, .ref p6, .ref p7, .ref p8, v, .ref x1, .ref x2, .ref p9, .str "\n", .str "Weight(1)"])) hl3
      have e14 := e13.upd (o := .lst (xs1 ++ [.ref p5, .ref p6, .ref p7, .ref p8, v, .ref x1, .ref x2, .ref p9, .str "\n", .str "Weight(1)"])) hl3
      have nl3 := e13.ne hl3
      have len3 : (xs1 ++ [V.ref p5, .ref p6, .ref p7, .ref p8, v, .ref x1, .ref x2, .ref p9, .str "\n", .str "Weight(1)"]).length = 28 := by rw [List.length_append, len1]; rfl
      refine ⟨_, rfl, _, rfl, _, rfl, l3, _, rfl, .inl (SqL.of upd_same), d, _, rfl, by rw [len3]; decide, by rw [len3]; decide, e14, fun q q0 q1' H9 d9 e9' => ?_⟩
      have g6 := Fw.draw d9 e9'
      obtain ⟨x, hx, mx⟩ := at_in q0 q1'
      refine ⟨l3, _, _, x, rfl, rfl, SqL.of ((e9' l3 nl3).trans upd_same), hx, k x H9 ?_ d9 (fC.trans ((g4.trans g5).trans g6))⟩
      have g46 := (g4.trans g5).trans g6
      rcases List.mem_append.mp mx with z | z
      · exact (els1 x z).fw g46
      · exact (els2 x z).fw g46
end
abbrev LETS : Str := "abcdefghijklmnopqrstuvwxyz"
def inL (y : Str) (c : Nat) : Bool := decide (c ∈ y.cps.toList)
def nmV : V → Bool
  | .str z => decide (1 ≤ (z.length : Int)) && (decide ((z.length : Int) ≤ 8) && z.cps.toList.all (inL LETS))
  | _ => false
def grV : V → Bool
  | .int i => decide (1 ≤ i)
  | _ => false
def dyV : V → Bool
  | .int i => decide (0 ≤ i) && decide (i ≤ 1200)
  | _ => false
def spMade : Sp := fun vs H Q _ => ∃ z y : Str, vs = [.str z, .str y] ∧ z.length ≤ 10000 ∧ ∀ H', Same H H' → Q (.bl (z.cps.toList.all (inL y))) H'
/-- a question about a thing -/
def spQ (K : PySem.W.Frag) (q : V → Bool) : Sp := fun vs H Q _ => ∃ v : V, vs = [v] ∧ Wh K H v ∧ Ws K H v ∧ TOk v ∧ ∀ H', Same H H' → Q (.bl (q v)) H'
section
variable {P : Program} {w : World} {K : PySem.W.Frag} {mg : Str → Option Value} {base : Heap}
theorem scMade : FnScope ["text", "signs", "sign"] ["text", "signs"] (defScope sMade) := ⟨rfl, rfl, rfl, by decide +kernel, rfl, by decide +kernel, by decide +kernel⟩
theorem ok_made {f : Addr} {fd : FuncData} (F : Fun K "made_of" "made_of" sMade f fd) (hal : mg "all" = none) : FnOk P w K mg base CX0 1 f fd ["text", "signs"] spMade := by
  refine F.ok scMade (fun vs H Q E h => ?_) (fun cdv A outer s H vs Q E hr h => ?_)
  · obtain ⟨z, y, rfl, _⟩ := h
    rfl
  · obtain ⟨z, y, rfl, hz, k⟩ := h
    refine ⟨_, (pss_one (ps_ret (pe_callB (cr_all rfl) (by rfl) hal (by decide +kernel) (pa_cons (pe_lc (own := [("sign", 2)]) (g := gName 2) (tt := tYes) (by rfl) scMade.nd (pi_str (pv 0)) (blkOk_by (own := [("sign", 2)]) (N := ["text", "signs", "sign"]) (sc := defScope sMade) (by decide +kernel)) (fun _ _ _ _ _ => (pg_name (i := 2) scMade.nd rfl (Or.inl rfl))) (fun _ _ _ _ _ => pts_nil) (fun _ _ _ _ _ => (pe_cmpR op_in_sign (pv 2) (pv 1) (by with_unfolding_all rfl)))) pa_nil)))), ?_⟩
    refine ⟨_, rfl, z, rfl, fun D hD => ?_⟩
    refine lc_str (fun i H2 => Same H H2 ∧ H2 D = some (.lst (((z.cps.toList.map (inL y)).take i).map V.bl))) ?_ ?_ ?_
    · exact ⟨same_upd hD, upd_same⟩
    · rintro i c H2 hc ⟨s2, hA⟩
      have hi : i < z.cps.size := (Array.getElem?_eq_some_iff.mp hc).1
      have hc' : z.cps.toList[i]? = some c := by rw [Array.getElem?_toList]; exact hc
      refine ⟨rfl, tYes_of ?_⟩
      rw [if_pos rfl]
      refine ⟨_, rfl, _, rfl, c, y, rfl, rfl, _, hA, ?_, ?_, ?_⟩
      · rw [List.length_map, List.length_take]
        exact Nat.lt_of_le_of_lt (Nat.min_le_left _ _) (Nat.lt_of_lt_of_le hi (Nat.le_trans hz (by decide)))
      · exact fun y o e => by
          rw [upd_ne (ne_of_none e hD)]
          exact s2 y o e
      · rw [upd_same, List.take_add_one, List.getElem?_map, hc', List.map_append]
        rfl
    · rintro H2 ⟨s2, hA⟩
      have e : (z.cps.toList.map (inL y)).take z.cps.size = z.cps.toList.map (inL y) := List.take_of_length_le (by rw [List.length_map]; simp)
      rw [e] at hA
      refine ⟨D, z.cps.toList.map (inL y), rfl, SqL.of hA, ?_⟩
      have e2 : (z.cps.toList.map (inL y)).all id = z.cps.toList.all (inL y) := by rw [List.all_map]; rfl
      rw [e2]
      exact k H2 s2
theorem scName : FnScope ["thing"] ["thing"] (defScope sName) := ⟨rfl, rfl, rfl, by decide +kernel, rfl, by decide +kernel, by decide +kernel⟩
theorem ok_name {f fM : Addr} {fd fdM : FuncData} {zM : Int} {tM : Tok} {zL : Str} {tL : Tok} (F : Fun K "is_name" "is_name" sName f fd) (B : Blt mg) (hst : mg "str" = none) (hln : mg "len" = none) (gM : mg "MOST_LETTERS" = some (.int zM tM)) (eM : zM = 8) (gL : mg "LETTERS" = some (.str zL tL)) (eL : zL = LETS)
    (cM : Cl K mg "made_of" fM fdM ["text", "signs"]) (GM : FnOk P w K mg base CX0 1 fM fdM ["text", "signs"] spMade) : FnOk P w K mg base CX0 2 f fd ["thing"] (spQ K nmV) := by
  refine F.ok scName (fun vs H Q E h => ?_) (fun cdv A outer s H vs Q E hr h => ?_)
  · obtain ⟨v, rfl, _⟩ := h
    rfl
  · obtain ⟨v, rfl, wh, ⟨tv, ty, ks⟩, tk, k⟩ := h
    refine ⟨_, (pss_cons (ps_if (pt_not (pt_val (pe_callB call_isi (by rfl) B.isi (by decide +kernel) (pa_cons (pv 0) (pa_cons (pe_bltn (v := .ty "str") (by rfl) hst (by decide +kernel) rfl) pa_nil))))) (pss_one (ps_ret pe_bl)) pss_nil)
    (pss_one (ps_ret (pe_and (pe_chain op_le op_le pe_int (pe_callB call_len_str (by rfl) hln PySem.boot_len (pa_cons (pv 0) pa_nil)) (pe_glob (v := .int zM) rfl gM ⟨_, rfl⟩)) (pe_one (pe_call GM (hr.mono (by decide)) (by rfl) cM.g cM.k cM.b .nil pass0 (pa_cons (pv 0) (pa_cons (pe_glob (v := .str zL) rfl gL ⟨_, rfl⟩) pa_nil)))))))), ?_⟩
    refine ⟨_, rfl, _, .ty "str", _, _, isS v, rfl, .ty _, ty, ks, isS v, rfl, ?_⟩
    by_cases hs : isS v = true
    · obtain ⟨z, rfl⟩ : ∃ z, v = .str z := by cases v <;> first | exact ⟨_, rfl⟩ | cases hs
      have hz := (tk z rfl).2
      have hz' : z.length ≤ sizeLine := Nat.le_trans hz (by decide)
      refine iteF ⟨_, rfl, z, rfl, hz', _, _, rfl, rfl, _, rfl, ?_⟩
      have q : ∀ b1 b2, decide ((1 : Int) ≤ (z.length : Int)) = b1 → decide ((z.length : Int) ≤ 8) = b2 → nmV (.str z) = (b1 && (b2 && z.cps.toList.all (inL LETS))) := fun b1 b2 h1 h2 => by rw [← h1, ← h2]; rfl
      by_cases h1 : (1 : Int) ≤ (z.length : Int)
      · rw [decide_eq_true h1]
        refine iteT ⟨_, _, rfl, rfl, _, rfl, ?_⟩
        by_cases h2 : (z.length : Int) ≤ 8
        · rw [decide_eq_true (show (z.length : Int) ≤ zM by rw [eM]; exact h2)]
          refine iteT ⟨_, rfl, z, zL, rfl, hz, fun H1 s1 => ?_⟩
          rw [eL]
          have e := q true true (decide_eq_true h1) (decide_eq_true h2)
          have kk := k H1 s1
          rw [e] at kk
          exact kk
        · rw [decide_eq_false (show ¬ (z.length : Int) ≤ zM by rw [eM]; exact h2)]
          have e := q true false (decide_eq_true h1) (decide_eq_false h2)
          have kk := k H (Same.refl H)
          rw [e] at kk
          exact iteF kk
      · rw [decide_eq_false h1]
        have e := q false _ (decide_eq_false h1) rfl
        have kk := k H (Same.refl H)
        rw [e] at kk
        exact iteF ⟨_, rfl, iteF kk⟩
    · have hs' : isS v = false := by simpa using hs
      rw [hs']
      have e : nmV v = false := by cases v <;> first | rfl | cases hs'
      have kk := k H (Same.refl H)
      rw [e] at kk
      exact iteT kk
theorem scGrains : FnScope ["thing"] ["thing"] (defScope sGrains) := ⟨rfl, rfl, rfl, by decide +kernel, rfl, by decide +kernel, by decide +kernel⟩
theorem ok_grains {f fW : Addr} {fd fdW : FuncData} (F : Fun K "is_grains" "is_grains" sGrains f fd) (cW : Cl K mg "is_whole" fW fdW ["thing"]) (GW : FnOk P w K mg base CX0 1 fW fdW ["thing"] (spWholeV K)) : FnOk P w K mg base CX0 2 f fd ["thing"] (spQ K grV) := by
  refine F.ok scGrains (fun vs H Q E h => ?_) (fun cdv A outer s H vs Q E hr h => ?_)
  · obtain ⟨v, rfl, _⟩ := h
    rfl
  · obtain ⟨v, rfl, wh, ws, tk, k⟩ := h
    refine ⟨_, (pss_one (ps_ret (pe_and (pe_call GW (hr.mono (by decide)) (by rfl) cW.g cW.k cW.b .nil pass0 (pa_cons (pv 0) pa_nil)) (pe_one (pe_cmpR op_ge (pv 0) pe_int (nomark _)))))), ?_⟩
    refine ⟨_, rfl, v, rfl, wh, _, rfl, ?_⟩
    have kk := k H (Same.refl H)
    by_cases hw : isW v = true
    · obtain ⟨i, rfl⟩ := isW_int hw
      exact iteT ⟨_, rfl, _, _, rfl, rfl, kk⟩
    · have hw' : isW v = false := by simpa using hw
      have e : grV v = false := by cases v <;> first | rfl | cases hw'
      rw [hw']
      rw [e] at kk
      exact iteF kk
theorem scDay : FnScope ["thing"] ["thing"] (defScope sDay) := ⟨rfl, rfl, rfl, by decide +kernel, rfl, by decide +kernel, by decide +kernel⟩
theorem ok_day {f fW : Addr} {fd fdW : FuncData} {zD : Int} {tD : Tok} (F : Fun K "is_day" "is_day" sDay f fd) (gD : mg "LAST_DAY" = some (.int zD tD)) (eD : zD = 1200) (cW : Cl K mg "is_whole" fW fdW ["thing"]) (GW : FnOk P w K mg base CX0 1 fW fdW ["thing"] (spWholeV K)) : FnOk P w K mg base CX0 2 f fd ["thing"] (spQ K dyV) := by
  refine F.ok scDay (fun vs H Q E h => ?_) (fun cdv A outer s H vs Q E hr h => ?_)
  · obtain ⟨v, rfl, _⟩ := h
    rfl
  · obtain ⟨v, rfl, wh, ws, tk, k⟩ := h
    refine ⟨_, (pss_one (ps_ret (pe_and (pe_call GW (hr.mono (by decide)) (by rfl) cW.g cW.k cW.b .nil pass0 (pa_cons (pv 0) pa_nil)) (pe_one (pe_chain op_le op_le pe_int (pv 0) (pe_glob (v := .int zD) rfl gD ⟨_, rfl⟩)))))), ?_⟩
    refine ⟨_, rfl, v, rfl, wh, _, rfl, ?_⟩
    have kk := k H (Same.refl H)
    by_cases hw : isW v = true
    · obtain ⟨i, rfl⟩ := isW_int hw
      refine iteT ⟨_, rfl, _, _, rfl, rfl, _, rfl, ?_⟩
      subst eD
      have e : dyV (.int i) = (decide (0 ≤ i) && decide (i ≤ 1200)) := rfl
      rw [e] at kk
      by_cases h0 : (0 : Int) ≤ i
      · rw [decide_eq_true h0] at kk ⊢
        exact iteT ⟨_, _, rfl, rfl, kk⟩
      · rw [decide_eq_false h0] at kk ⊢
        exact iteF kk
    · have hw' : isW v = false := by simpa using hw
      have e : dyV v = false := by cases v <;> first | rfl | cases hw'
      rw [hw']
      rw [e] at kk
      exact iteF kk
theorem scLIsGrains : FnScope ["_law_thing"] ["_law_thing"] (defScope sLIsGrains) := ⟨rfl, rfl, rfl, by decide +kernel, rfl, by decide +kernel, by decide +kernel⟩
theorem ok_lisgrains {f fW : Addr} {fd fdW : FuncData} (F : Fun K "_law_is_grains" "_law_is_grains" sLIsGrains f fd) (cW : Cl K mg "_law_whole" fW fdW ["_law_thing"]) (GW : FnOk P w K mg base CX0 1 fW fdW ["_law_thing"] (spWholeV K)) : FnOk P w K mg base CX0 2 f fd ["_law_thing"] (spQ K grV) := by
  refine F.ok scLIsGrains (fun vs H Q E h => ?_) (fun cdv A outer s H vs Q E hr h => ?_)
  · obtain ⟨v, rfl, _⟩ := h
    rfl
  · obtain ⟨v, rfl, wh, ws, tk, k⟩ := h
    refine ⟨_, (pss_one (ps_ret (pe_and (pe_call GW (hr.mono (by decide)) (by rfl) cW.g cW.k cW.b .nil pass0 (pa_cons (pv 0) pa_nil)) (pe_one (pe_cmpR op_gt (pv 0) pe_int (nomark _)))))), ?_⟩
    refine ⟨_, rfl, v, rfl, wh, _, rfl, ?_⟩
    have kk := k H (Same.refl H)
    by_cases hw : isW v = true
    · obtain ⟨i, rfl⟩ := isW_int hw
      refine iteT ⟨_, rfl, _, _, rfl, rfl, ?_⟩
      have e : grV (.int i) = decide (0 < i) := by
        show decide (1 ≤ i) = decide (0 < i)
        exact decide_eq_decide.mpr (by omega)
      rw [e] at kk
      exact kk
    · have hw' : isW v = false := by simpa using hw
      have e : grV v = false := by cases v <;> first | rfl | cases hw'
      rw [hw']
      rw [e] at kk
      exact iteF kk
theorem scLIsDay : FnScope ["_law_thing"] ["_law_thing"] (defScope sLIsDay) := ⟨rfl, rfl, rfl, by decide +kernel, rfl, by decide +kernel, by decide +kernel⟩
theorem ok_lisday {f fW : Addr} {fd fdW : FuncData} (F : Fun K "_law_is_day" "_law_is_day" sLIsDay f fd) (cW : Cl K mg "_law_whole" fW fdW ["_law_thing"]) (GW : FnOk P w K mg base CX0 1 fW fdW ["_law_thing"] (spWholeV K)) : FnOk P w K mg base CX0 2 f fd ["_law_thing"] (spQ K dyV) := by
  refine F.ok scLIsDay (fun vs H Q E h => ?_) (fun cdv A outer s H vs Q E hr h => ?_)
  · obtain ⟨v, rfl, _⟩ := h
    rfl
  · obtain ⟨v, rfl, wh, ws, tk, k⟩ := h
    refine ⟨_, (pss_one (ps_ret (pe_and (pe_call GW (hr.mono (by decide)) (by rfl) cW.g cW.k cW.b .nil pass0 (pa_cons (pv 0) pa_nil)) (pe_one (pe_chain op_le op_le pe_int (pv 0) pe_int))))), ?_⟩
    refine ⟨_, rfl, v, rfl, wh, _, rfl, ?_⟩
    have kk := k H (Same.refl H)
    by_cases hw : isW v = true
    · obtain ⟨i, rfl⟩ := isW_int hw
      refine iteT ⟨_, rfl, _, _, rfl, rfl, _, rfl, ?_⟩
      have e : dyV (.int i) = (decide (0 ≤ i) && decide (i ≤ 1200)) := rfl
      rw [e] at kk
      by_cases h0 : (0 : Int) ≤ i
      · rw [decide_eq_true h0] at kk ⊢
        exact iteT ⟨_, _, rfl, rfl, kk⟩
      · rw [decide_eq_false h0] at kk ⊢
        exact iteF kk
    · have hw' : isW v = false := by simpa using hw
      have e : dyV v = false := by cases v <;> first | rfl | cases hw'
      rw [hw']
      rw [e] at kk
      exact iteF kk
end
end K
namespace K
open PySem L2 Rp
theorem eqvAll_strs : ∀ fs : List Str, PyData.eqvAll (fs.map PyData.str) [] = decide (fs = [])
  | [] => rfl
  | _ :: _ => rfl
theorem canLay_strs : ∀ fs : List Str, (∀ f ∈ fs, Asc f) → PyData.canLayAll0 (fs.map PyData.str) = true
  | [], _ => rfl
  | f :: fs, h => by
    have ih := canLay_strs fs fun g hg => h g (List.mem_cons_of_mem _ hg)
    have h0 : PySem.PyData.strOk f = true := by
      unfold PySem.PyData.strOk
      rw [Array.all_eq_true]
      intro i hi
      exact decide_eq_true (Nat.lt_trans (h f List.mem_cons_self _ (by simp)) (by decide))
    show (PyData.canLay0 (.str f) && PyData.canLayAll0 (fs.map PyData.str)) = true
    rw [ih]
    simpa [PyData.canLay0] using h0
theorem depth_strs : ∀ fs : List Str, PyData.depthAll (fs.map PyData.str) = 0
  | [] => rfl
  | f :: fs => by simp [PyData.depthAll, PyData.depth, depth_strs fs]
theorem shaped_strs {fs : List Str} (h : ∀ f ∈ fs, Asc f) : SeqAt.shaped (.list (fs.map PyData.str)) = true := by
  simp [SeqAt.shaped, PyData.canLay0, PyData.depth, canLay_strs fs h, depth_strs]
theorem dp_strs {K : PySem.W.Frag} {H : Hp} : ∀ fs : List Str, DpAll K H (fs.map V.str) (fs.map PyData.str)
  | [] => .nil
  | f :: fs => .cons (.str f) (dp_strs fs)
def spSign : Sp := fun vs H Q _ => ∃ d : Addr, vs = [.ref d] ∧ DeckAt H d ∧ ∀ (z : Str) (H' : Hp), Asc z → z.length = 1 → DeckAt H' d → Fw d H H' → Q (.str z) H'
def spLName : Sp := fun vs H Q _ => ∃ d : Addr, vs = [.ref d] ∧ DeckAt H d ∧ ∀ (z : Str) (H' : Hp), Asc z → z.length ≤ 8 → DeckAt H' d → Fw d H H' → Q (.str z) H'
def spBent : Sp := fun vs H Q _ => ∃ (d : Addr) (z : Str), vs = [.ref d, .str z] ∧ DeckAt H d ∧ Asc z ∧ z.length ≤ 1000 ∧ ∀ (z' : Str) (H' : Hp), Asc z' → z'.length ≤ 3 * z.length + 3 → DeckAt H' d → Fw d H H' → Q (.str z') H'
section
variable {P : Program} {w : World} {K : PySem.W.Frag} {mg : Str → Option Value} {base : Heap}
theorem scLIsName : FnScope ["_law_thing", "_law_sign_here"] ["_law_thing"] (defScope sLIsName) := ⟨rfl, rfl, rfl, by decide +kernel, rfl, by decide +kernel, by decide +kernel⟩
theorem ok_lisname {f : Addr} {fd : FuncData} (F : Fun K "_law_is_name" "_law_is_name" sLIsName f fd) (B : Blt mg) (hst : mg "str" = none) (hln : mg "len" = none) : FnOk P w K mg base CX0 2 f fd ["_law_thing"] (spQ K nmV) := by
  refine F.ok scLIsName (fun vs H Q E h => ?_) (fun cdv A outer s H vs Q E hr h => ?_)
  · obtain ⟨v, rfl, _⟩ := h
    rfl
  · obtain ⟨v, rfl, wh, ⟨tv, ty, ks⟩, tk, k⟩ := h
    refine ⟨_, (pss_cons (ps_if (PW.pt (pw_or (pt_not (pt_val (pe_callB call_isi (by rfl) B.isi (by decide +kernel) (pa_cons (pv 0) (pa_cons (pe_bltn (v := .ty "str") (by rfl) hst (by decide +kernel) rfl) pa_nil))))) (pw_or1 (pt_not (pt_chain op_lt op_lt pe_int (pe_callB call_len_str (by rfl) hln PySem.boot_len (pa_cons (pv 0) pa_nil)) pe_int))))) (pss_one (ps_ret pe_bl)) pss_nil)
    (pss_one (ps_ret (pe_cmpR (op_eqD hr.units) (pe_lc (own := [("_law_sign_here", 1)]) (g := gName 1) (tt := _) (by rfl) scLIsName.nd (pi_str (pv 0)) (blkOk_by (own := [("_law_sign_here", 1)]) (N := ["_law_thing", "_law_sign_here"]) (sc := defScope sLIsName) (by decide +kernel)) (fun _ _ _ _ _ => (pg_name (i := 1) scLIsName.nd rfl (Or.inl rfl))) (fun _ _ _ _ _ => pts_one (pt_cmpR op_notIn_sign (pv 1) pe_str (by with_unfolding_all rfl))) (fun _ _ _ _ _ => (pv 1))) (pe_lst pa_nil) (nomark _))))), ?_⟩
    have kk := k H (Same.refl H)
    refine ⟨_, rfl, _, .ty "str", _, _, isS v, rfl, .ty _, ty, ks, isS v, rfl, ?_⟩
    by_cases hs : isS v = true
    · obtain ⟨z, rfl⟩ : ∃ z, v = .str z := by cases v <;> first | exact ⟨_, rfl⟩ | cases hs
      obtain ⟨az, hz⟩ := tk z rfl
      have hz' : z.length ≤ sizeLine := Nat.le_trans hz (by decide)
      have q : ∀ b1 b2, decide ((1 : Int) ≤ (z.length : Int)) = b1 → decide ((z.length : Int) ≤ 8) = b2 → nmV (.str z) = (b1 && (b2 && z.cps.toList.all (inL LETS))) := fun b1 b2 h1 h2 => by rw [← h1, ← h2]; rfl
      refine iteF ⟨_, rfl, z, rfl, hz', _, _, rfl, rfl, _, rfl, ?_⟩
      by_cases h1 : (0 : Int) < (z.length : Int)
      · rw [decide_eq_true h1]
        refine iteT ⟨_, _, rfl, rfl, _, rfl, ?_⟩
        by_cases h2 : (z.length : Int) < 9
        · rw [decide_eq_true h2]
          refine iteF ?_
          have e := q true true (decide_eq_true (by omega)) (decide_eq_true (by omega))
          refine ⟨_, rfl, z, rfl, fun D hD => ?_⟩
          have sub : ∀ l : List Nat, (∀ c ∈ l, c < 128) → ∀ g ∈ (l.filter fun c => !inL LETS c).map (fun c => (⟨#[c]⟩ : Str)), Asc g := fun l hl g hg => by
            obtain ⟨c, hc, rfl⟩ := List.mem_map.mp hg
            exact asc_one (hl c (List.mem_filter.mp hc).1)
          refine lc_str (fun i H2 => Same H H2 ∧ H2 D = some (.lst ((((z.cps.toList.take i).filter fun c => !inL LETS c).map (fun c => (⟨#[c]⟩ : Str))).map V.str))) ?_ ?_ ?_
          · exact ⟨same_upd hD, upd_same⟩
          · rintro i c H2 hc ⟨s2, hA⟩
            have hi : i < z.cps.size := (Array.getElem?_eq_some_iff.mp hc).1
            have hc' : z.cps.toList[i]? = some c := by rw [Array.getElem?_toList]; exact hc
            refine ⟨rfl, _, rfl, c, _, rfl, rfl, _, rfl, ?_⟩
            have et : z.cps.toList.take (i + 1) = z.cps.toList.take i ++ [c] := by rw [List.take_add_one, hc']; rfl
            by_cases hm : c ∈ (LETS : Str).cps.toList
            · rw [decide_eq_true hm]
              refine iteF ⟨s2, ?_⟩
              rw [et, List.filter_append]
              have hb : inL LETS c = true := decide_eq_true hm
              have : [c].filter (fun c => !inL LETS c) = [] := by simp [hb]
              rw [this, List.append_nil]
              exact hA
            · rw [decide_eq_false hm]
              refine iteT ⟨_, rfl, _, hA, ?_, ?_, ?_⟩
              · rw [List.length_map, List.length_map]
                have l1 := List.length_filter_le (fun c => !inL LETS c) (z.cps.toList.take i)
                rw [List.length_take] at l1
                have l2 : i < z.length := hi
                have l3 : (sizeLine : Nat) ≥ 10001 := by decide
                omega
              · exact fun y o e => by
                  rw [upd_ne (ne_of_none e hD)]
                  exact s2 y o e
              · rw [upd_same, et, List.filter_append]
                have hb : inL LETS c = false := decide_eq_false hm
                have : [c].filter (fun c => !inL LETS c) = [c] := by simp [hb]
                rw [this, List.map_append, List.map_append]
                rfl
          · rintro H2 ⟨s2, hA⟩
            have et : z.cps.toList.take z.cps.size = z.cps.toList := List.take_of_length_le (by simp)
            rw [et] at hA
            refine ⟨Nat.zero_le _, fun q hq => ?_⟩
            refine ⟨.list (((z.cps.toList.filter fun c => !inL LETS c).map (fun c => (⟨#[c]⟩ : Str))).map PyData.str), .list [], .lst (SqL.of (same_upd hq _ _ hA)) (dp_strs _), .lst (SqL.of upd_same) .nil, shaped_strs (sub _ az), rfl, ?_⟩
            have ev : PyData.eqv (.list (((z.cps.toList.filter fun c => !inL LETS c).map (fun c => (⟨#[c]⟩ : Str))).map PyData.str)) (.list []) = z.cps.toList.all (inL LETS) := by
              show PyData.eqvAll _ [] = _
              rw [eqvAll_strs, Bool.eq_iff_iff, decide_eq_true_iff, List.map_eq_nil_iff, List.filter_eq_nil_iff, List.all_eq_true]
              simp
            rw [ev]
            have kk := k _ (s2.trans (same_upd (o := .lst []) hq))
            rw [e] at kk
            exact kk
        · rw [decide_eq_false h2]
          have e := q true false (decide_eq_true (by omega)) (decide_eq_false (by omega))
          rw [e] at kk
          exact iteT kk
      · rw [decide_eq_false h1]
        have e := q false _ (decide_eq_false (by omega)) rfl
        rw [e] at kk
        exact iteF ⟨_, rfl, iteT kk⟩
    · have hs' : isS v = false := by simpa using hs
      rw [hs']
      have e : nmV v = false := by cases v <;> first | rfl | cases hs'
      rw [e] at kk
      exact iteT kk
theorem scSign : FnScope ["_law_deck_here", "_law_some"] ["_law_deck_here"] (defScope sSign) := ⟨rfl, rfl, rfl, by decide +kernel, rfl, by decide +kernel, by decide +kernel⟩
theorem ok_sign {f fD : Addr} {fd fdD : FuncData} (F : Fun K "_law_sign" "_law_sign" sSign f fd) (hln : mg "len" = none) (cD : Cl K mg "_law_draw" fD fdD ["_law_deck_here", "_law_most"]) (GD : FnOk P w K mg base CX0 1 fD fdD ["_law_deck_here", "_law_most"] spDraw) : FnOk P w K mg base CX0 2 f fd ["_law_deck_here"] spSign := by
  refine F.ok scSign (fun vs H Q E h => ?_) (fun cdv A outer s H vs Q E hr h => ?_)
  · obtain ⟨d, rfl, _⟩ := h
    rfl
  · obtain ⟨d, rfl, hd, k⟩ := h
    refine ⟨_, (pss_cons (ps_set (i := 1) scSign.nd rfl (Or.inl rfl) pe_str)
    (pss_cons (ps_set (i := 1) scSign.nd rfl (Or.inl rfl) (pe_op op_add_str (pv 1) (pe_op op_mulS pe_str pe_int)))
    (pss_one (ps_ret (pe_ix ix_str (pv 1) (pe_call GD (hr.mono (by decide)) (by rfl) cD.g cD.k cD.b .nil pass0 (pa_cons (pv 0) (pa_cons (pe_callB call_len_str (by rfl) hln PySem.boot_len (pa_cons (pv 1) pa_nil)) pa_nil))) (fun _ _ => rfl)))))), ?_⟩
    refine ⟨_, rfl, _, _, rfl, rfl, by unfold MulOk; decide +kernel, _, _, rfl, rfl, by decide +kernel, ?_⟩
    generalize hz : (_ ++ Txt.mul _ 4 : Str) = z
    have az : Asc z := by rw [← hz]; exact asc_lit _ (by decide +kernel)
    have lz : z.length = 151 := by rw [← hz]; decide +kernel
    refine ⟨_, rfl, _, rfl, _, rfl, z, rfl, by rw [lz]; decide, d, _, rfl, by rw [lz]; decide, by rw [lz]; decide, hd, fun q q0 q1 H1 d1 e1 => ?_⟩
    have hq : q.toNat < z.cps.toList.length := by
      have : z.cps.toList.length = z.length := by simp [Str.length]
      omega
    have hg : z.cps.toList[q.toNat]? = some z.cps.toList[q.toNat] := List.getElem?_eq_getElem hq
    have ha := atI_nat hg
    rw [Int.toNat_of_nonneg q0] at ha
    refine ⟨z, q, _, rfl, rfl, by rw [lz]; decide, ha, ?_⟩
    exact k _ H1 (asc_one (az _ (List.getElem_mem hq))) rfl d1 (Fw.draw d1 e1)
theorem scLName : FnScope ["_law_deck_here", "_law_letters", "_law_many", "_law_k"] ["_law_deck_here"] (defScope sLName) := ⟨rfl, rfl, rfl, by decide +kernel, rfl, by decide +kernel, by decide +kernel⟩
theorem ok_lname {f fD : Addr} {fd fdD : FuncData} (F : Fun K "_law_name" "_law_name" sLName f fd) (hrg : mg "range" = none) (cD : Cl K mg "_law_draw" fD fdD ["_law_deck_here", "_law_most"]) (GD : FnOk P w K mg base CX0 1 fD fdD ["_law_deck_here", "_law_most"] spDraw) : FnOk P w K mg base CX0 2 f fd ["_law_deck_here"] spLName := by
  refine F.ok scLName (fun vs H Q E h => ?_) (fun cdv A outer s H vs Q E hr h => ?_)
  · obtain ⟨d, rfl, _⟩ := h
    rfl
  · obtain ⟨d, rfl, hd, k⟩ := h
    refine ⟨_, (pss_cons (ps_set (i := 1) scLName.nd rfl (Or.inr rfl) pe_str)
    (pss_cons (ps_set (i := 2) scLName.nd rfl (Or.inl rfl) (pe_ix ix_list (pe_lst (pa_cons pe_int (pa_cons pe_int (pa_cons (pe_op op_add pe_int (pe_call GD (hr.mono (by decide)) (by rfl) cD.g cD.k cD.b .nil pass0 (pa_cons (pv 0) (pa_cons pe_int pa_nil)))) pa_nil)))) (pe_call GD (hr.mono (by decide)) (by rfl) cD.g cD.k cD.b .nil pass0 (pa_cons (pv 0) (pa_cons pe_int pa_nil))) (fun _ _ => rfl)))
    (pss_one (ps_ret (pe_join pe_str (pe_lc (own := [("_law_k", 3)]) (g := gName 3) (tt := tYes) (by rfl) scLName.nd (pi_range1 (by rfl) hrg (pa_cons (pv 2) pa_nil)) (blkOk_by (own := [("_law_k", 3)]) (N := ["_law_deck_here", "_law_letters", "_law_many", "_law_k"]) (sc := defScope sLName) (by decide +kernel)) (fun _ _ _ _ _ => (pg_name (i := 3) scLName.nd rfl (Or.inl rfl))) (fun _ _ _ _ _ => pts_nil) (fun _ _ _ _ _ => (pe_ix ix_str (pv 1) (pe_call GD (hr.mono (by decide)) (by rfl) cD.g cD.k cD.b .nil pass0 (pa_cons (pv 0) (pa_cons pe_int pa_nil))) (fun _ _ => rfl))))))))), ?_⟩
    have al : Asc LETS := asc_lit _ (by decide +kernel)
    have ll : (LETS : Str).cps.toList.length = 26 := by decide +kernel
    refine ⟨_, rfl, d, 8, rfl, by decide, by decide, hd, fun q q0 q1 H1 d1 e1 => ⟨_, _, rfl, rfl, (by show 3 ≤ sizeLine; decide), fun l hl => ?_⟩⟩
    have d2 := d1.upd (o := .lst [.int 1, .int 8, .int (1 + q)]) hl
    have f2 := (Fw.draw d1 e1).trans (Fw.upd (d := d) (o := .lst [.int 1, .int 8, .int (1 + q)]) hl)
    refine ⟨_, rfl, d, 3, rfl, by decide, by decide, d2, fun r r0 r1 H3 d3 e3 => ?_⟩
    have hl3 : H3 l = some (.lst [.int 1, .int 8, .int (1 + q)]) := (e3 l (d1.ne hl)).trans upd_same
    have f3 := f2.trans (Fw.draw d3 e3)
    obtain ⟨v, hv, mv⟩ := at_in (xs := [.int 1, .int 8, .int (1 + q)]) r0 r1
    obtain ⟨n, rfl, n1, n8⟩ : ∃ n : Int, v = .int n ∧ 1 ≤ n ∧ n ≤ 8 := by
      rcases List.mem_cons.mp mv with rfl | mv
      · exact ⟨1, rfl, by decide, by decide⟩
      · rcases List.mem_cons.mp mv with rfl | mv
        · exact ⟨8, rfl, by decide, by decide⟩
        · rw [List.mem_singleton.mp mv]; exact ⟨1 + q, rfl, by omega, by omega⟩
    refine ⟨l, _, _, _, rfl, rfl, SqL.of hl3, hv, ?_⟩
    refine ⟨⟨_, rfl⟩, _, rfl, n, rfl, by omega, by omega, fun D hD => ?_⟩
    refine lc_range (lo := 0) (n := n.toNat) (fun i H2 => ∃ ys : List Str, H2 D = some (.lst (ys.map V.str)) ∧ ys.length = i ∧ (∀ y ∈ ys, Asc y ∧ y.length = 1) ∧ DeckAt H2 d ∧ Fw d H H2) ?_ ?_ ?_
    · exact ⟨[], upd_same, rfl, fun y hy => (nomatch hy), d3.upd hD, f3.trans (Fw.upd hD)⟩
    · rintro i H2 hi ⟨ys, hA, hl, hall, d4, f4⟩
      have nD : D ≠ d := d3.ne hD
      have hD0 : H D = none := f3.nn D hD
      refine ⟨rfl, tYes_of ?_⟩
      rw [if_pos rfl]
      refine ⟨_, rfl, _, rfl, d, 26, rfl, by decide, by decide, d4, fun c c0 c1 H5 d5 e5 => ?_⟩
      have hq : c.toNat < (LETS : Str).cps.toList.length := by rw [ll]; omega
      have hg : (LETS : Str).cps.toList[c.toNat]? = some (LETS : Str).cps.toList[c.toNat] := List.getElem?_eq_getElem hq
      have ha := atI_nat hg
      rw [Int.toNat_of_nonneg c0] at ha
      refine ⟨LETS, c, _, rfl, rfl, by decide +kernel, ha, ys.map V.str, (e5 D nD).trans hA, ?_, ys ++ [⟨#[(LETS : Str).cps.toList[c.toNat]]⟩], ?_, by rw [List.length_append, hl]; rfl, fun y hy => ?_, ?_, ?_⟩
      · rw [List.length_map, hl]
        exact small1000 (by omega)
      · rw [upd_same, List.map_append]
        rfl
      · rcases List.mem_append.mp hy with z | z
        · exact hall y z
        · rw [List.mem_singleton.mp z]
          exact ⟨asc_one (al _ (List.getElem_mem hq)), rfl⟩
      · obtain ⟨a, b, c, h⟩ := d5
        exact ⟨a, b, c, by rw [upd_ne (Ne.symm nD)]; exact h⟩
      · exact (f4.trans (Fw.draw d5 e5)).at hD0
    · rintro H2 ⟨ys, hA, hl, hall, d4, f4⟩
      have e0 : ("" : Str).length = 0 := by decide +kernel
      have sm := sum_ones ys fun y hy => (hall y hy).2
      refine ⟨"", D, ys, rfl, rfl, .inl (SqL.of hA), by rw [sm, e0]; omega, ?_⟩
      refine k _ H2 (join_asc ys fun y hy => (hall y hy).1) ?_ d4 f4
      rw [join_len1 ys fun y hy => (hall y hy).2]
      omega
theorem scBent : FnScope ["_law_deck_here", "_law_text", "_law_way", "_law_at"] ["_law_deck_here", "_law_text"] (defScope sBent) := ⟨rfl, rfl, rfl, by decide +kernel, rfl, by decide +kernel, by decide +kernel⟩
theorem ok_bent {f fD fS : Addr} {fd fdD fdS : FuncData} (F : Fun K "_law_text_otherwise" "_law_text_otherwise" sBent f fd) (B : Blt mg) (hln : mg "len" = none) (cD : Cl K mg "_law_draw" fD fdD ["_law_deck_here", "_law_most"]) (GD : FnOk P w K mg base CX0 1 fD fdD ["_law_deck_here", "_law_most"] spDraw)
    (cS : Cl K mg "_law_sign" fS fdS ["_law_deck_here"]) (GS : FnOk P w K mg base CX0 2 fS fdS ["_law_deck_here"] spSign) : FnOk P w K mg base CX0 3 f fd ["_law_deck_here", "_law_text"] spBent := by
  refine F.ok scBent (fun vs H Q E h => ?_) (fun cdv A outer s H vs Q E hr h => ?_)
  · obtain ⟨d, z, rfl, _⟩ := h
    rfl
  · obtain ⟨d, z, rfl, hd, az, lz, k⟩ := h
    refine ⟨_, (pss_cons (ps_set (i := 2) scBent.nd rfl (Or.inl rfl) (pe_call GD (hr.mono (by decide)) (by rfl) cD.g cD.k cD.b .nil pass0 (pa_cons (pv 0) (pa_cons pe_int pa_nil))))
    (pss_cons (ps_set (i := 3) scBent.nd rfl (Or.inl rfl) (pe_call GD (hr.mono (by decide)) (by rfl) cD.g cD.k cD.b .nil pass0 (pa_cons (pv 0) (pa_cons (pe_op op_add (pe_callB call_len_str (by rfl) hln PySem.boot_len (pa_cons (pv 1) pa_nil)) pe_int) pa_nil))))
    (pss_cons (ps_if (pt_cmpR op_lt (pv 2) pe_int (nomark _)) (pss_one (ps_ret (pe_op op_add_str (pe_op op_add_str (pe_slice sl_str (pv 1) po_none (po_some (pv 3))) (pe_ix ix_list (pe_lst (pa_cons (pe_call GS (hr.mono (by decide)) (by rfl) cS.g cS.k cS.b .nil pass0 (pa_cons (pv 0) pa_nil)) (pa_cons (pe_call GS (hr.mono (by decide)) (by rfl) cS.g cS.k cS.b .nil pass0 (pa_cons (pv 0) pa_nil)) (pa_cons pe_str (pa_cons (pe_slice sl_str (pv 1) (po_some (pv 3)) (po_some (pe_op op_add (pv 3) pe_int))) pa_nil))))) (pv 2) (fun _ _ => rfl))) (pe_slice sl_str (pv 1) (po_some (pe_op op_add (pv 3) (pe_callTy call_int1 (by rfl) B.int (by decide +kernel) (pa_cons (pe_chain op_lt op_lt pe_int (pv 2) pe_int) pa_nil)))) po_none)))) pss_nil)
    (pss_one (ps_ret (pe_ix ix_list (pe_lst (pa_cons (pe_op op_add_str (pv 1) (pv 1)) (pa_cons (pe_upper (pv 1)) (pa_cons (pe_revS (pv 1)) (pa_cons (pe_op op_add_str (pv 1) pe_str) pa_nil))))) (pe_op op_sub (pv 2) pe_int) (fun _ _ => rfl))))))), ?_⟩
    have big : ∀ n : Nat, n ≤ 100000 → n ≤ sizeLine := fun n h => Nat.le_trans h (by decide)
    have hz : z.length ≤ sizeLine := big _ (by omega)
    refine ⟨_, rfl, d, 8, rfl, by decide, by decide, hd, fun q q0 q1 H1 d1 e1 => ?_⟩
    refine ⟨_, rfl, _, rfl, z, rfl, hz, _, _, rfl, rfl, d, _, rfl, by omega, by omega, d1, fun r r0 r1 H2 d2 e2 => ?_⟩
    have f2 := (Fw.draw d1 e1).trans (Fw.draw d2 e2)
    refine ⟨_, rfl, _, _, rfl, rfl, _, rfl, ?_⟩
    refine ite2 (fun hw => ?_) (fun hw => ?_)
    · have hw := of_decide_eq_true hw
      refine ⟨_, rfl, _, rfl, r, rfl, z, rfl, hz, ?_⟩
      refine ⟨_, rfl, d, rfl, d2, fun s1 H3 a1 l1 d3 f3 => ?_⟩
      refine ⟨_, rfl, d, rfl, d3, fun s2 H4 a2 l2 d4 f4 => ?_⟩
      refine ⟨_, rfl, _, rfl, r, rfl, _, rfl, _, _, rfl, rfl, _, rfl, z, rfl, hz, (by show 4 ≤ sizeLine; decide), fun l hl => ?_⟩
      obtain ⟨v, hv, mv⟩ := at_in (xs := [.str s1, .str s2, .str "", .str (cutS z (some r) (some (r + 1)))]) q0 (show q < 4 by omega)
      have lc : (cutS z (some r) (some (r + 1))).length ≤ z.length := cutS_length z _ _
      have e0 : ("" : Str).length = 0 := by decide +kernel
      obtain ⟨y, rfl, ay, ly⟩ : ∃ y, v = .str y ∧ Asc y ∧ y.length ≤ z.length + 1 := by
        rcases List.mem_cons.mp mv with rfl | mv
        · exact ⟨_, rfl, a1, by omega⟩
        · rcases List.mem_cons.mp mv with rfl | mv
          · exact ⟨_, rfl, a2, by omega⟩
          · rcases List.mem_cons.mp mv with rfl | mv
            · exact ⟨_, rfl, asc_lit _ (by decide +kernel), by omega⟩
            · rw [List.mem_singleton.mp mv]
              exact ⟨_, rfl, asc_cut az _ _, by omega⟩
      have lA : (cutS z none (some r)).length ≤ z.length := cutS_length z _ _
      refine ⟨_, rfl, l, _, q, _, rfl, rfl, SqL.of upd_same, hv, _, _, rfl, rfl, big _ (by omega), ?_⟩
      have fin : ∀ b : Int, Q (.str (cutS z none (some r) ++ y ++ cutS z (some (r + b)) none)) (upd H4 l (.lst [.str s1, .str s2, .str "", .str (cutS z (some r) (some (r + 1)))])) := fun b => by
        have lB : (cutS z (some (r + b)) none).length ≤ z.length := cutS_length z _ _
        refine k _ _ (asc_app (asc_app (asc_cut az _ _) ay) (asc_cut az _ _)) ?_ (d4.upd hl) (((f2.trans f3).trans f4).trans (Fw.upd hl))
        rw [append_len, append_len]
        omega
      have lB : ∀ b : Int, (cutS z (some (r + b)) none).length ≤ z.length := fun b => cutS_length z _ _
      have sz : ∀ b : Int, (cutS z none (some r) ++ y).length + (cutS z (some (r + b)) none).length ≤ sizeLine := fun b => big _ (by
        have := lB b
        rw [append_len]
        omega)
      refine ⟨_, rfl, _, rfl, _, rfl, _, _, rfl, rfl, _, rfl, ?_⟩
      refine ite2 (fun _ => ?_) (fun _ => ?_)
      · refine ⟨_, _, rfl, rfl, .inr ⟨_, rfl, _, _, rfl, rfl, _, rfl, z, rfl, hz, _, _, rfl, rfl, sz _, fin _⟩⟩
      · refine .inr ⟨_, rfl, _, _, rfl, rfl, _, rfl, z, rfl, hz, _, _, rfl, rfl, sz _, fin _⟩
    · have hw : ¬ q < 4 := fun h => hw (decide_eq_true h)
      have lu := PyProof.Rows.len_upper z
      have lr := revT_len z
      have e1 : ("\n" : Str).length = 1 := by decide +kernel
      refine ⟨_, rfl, _, rfl, _, _, rfl, rfl, big _ (by omega), _, rfl, ⟨_, rfl⟩, z, rfl, rfl, by omega, _, rfl, z, rfl, hz, _, rfl, _, _, rfl, rfl, big _ (by omega), (by show 4 ≤ sizeLine; decide), fun l hl => ?_⟩
      obtain ⟨v, hv, mv⟩ := at_in (q := q - 4) (xs := [.str (z ++ z), .str (Txt.upper z), .str (revT z), .str (z ++ "\n")]) (by omega) (show q - 4 < 4 by omega)
      obtain ⟨y, rfl, ay, ly⟩ : ∃ y, v = .str y ∧ Asc y ∧ y.length ≤ 3 * z.length + 3 := by
        rcases List.mem_cons.mp mv with rfl | mv
        · exact ⟨_, rfl, asc_app az az, by rw [append_len]; omega⟩
        · rcases List.mem_cons.mp mv with rfl | mv
          · exact ⟨_, rfl, asc_upper az, by omega⟩
          · rcases List.mem_cons.mp mv with rfl | mv
            · exact ⟨_, rfl, asc_rev az, by omega⟩
            · rw [List.mem_singleton.mp mv]
              exact ⟨_, rfl, asc_app az (asc_lit _ (by decide +kernel)), by rw [append_len]; omega⟩
      refine ⟨_, rfl, _, _, rfl, rfl, l, _, _, _, rfl, rfl, SqL.of upd_same, hv, ?_⟩
      exact k y _ ay ly (d2.upd hl) (f2.trans (Fw.upd hl))
end
end K
namespace K
open PySem L2 Rp
theorem od_dicK {C d : Addr} {H : Hp} {N M N' M' : Nat} {a : Addr} {kvs : List (Key × V)} (ha : H a = none) (nd : a ≠ d) (h : ∀ kv ∈ kvs, Od C d N M H kv.2 ∧ Od C d N M H (kV kv.1)) (h1 : N + 2 ≤ N') (h2 : kvs.length * (2 * M + 4) + 3 ≤ M') : Od C d N' M' (upd H a (.dK kvs)) (.ref a) := by
  obtain ⟨as, a1, a2, a3⟩ := od_all (xs := kvs.map (·.2) ++ kvs.map (fun kv => kV kv.1)) fun v hv => by
    rcases List.mem_append.mp hv with hv | hv
    · obtain ⟨kv, hk, rfl⟩ := List.mem_map.mp hv
      exact (h kv hk).1
    · obtain ⟨kv, hk, rfl⟩ := List.mem_map.mp hv
      exact (h kv hk).2
  have na : a ∉ as := fun z => a2 a z ha
  have up : ∀ b ∈ as, ∀ o, H b = some o → (upd H a (.dK kvs)) b = some o := fun b hb o ho => by
    rw [upd_ne (fun z : b = a => na (z ▸ hb))]
    exact ho
  refine ⟨a :: as, fun z => (List.mem_cons.mp z).elim (fun z => nd z.symm) a1, fun b hb z => ?_, .dic upd_same na (fun kv hk => (a3 _ (List.mem_append_right _ (List.mem_map.mpr ⟨kv, hk, rfl⟩))).congr up) (fun kv hk => (a3 _ (List.mem_append_left _ (List.mem_map.mpr ⟨kv, hk, rfl⟩))).congr up) h1 h2 fun b hb => hb⟩
  by_cases e : b = a
  · rw [e, upd_same] at z
    cases z
  · rw [upd_ne e] at z
    exact a2 b ((List.mem_cons.mp hb).resolve_left e) z
def spTold (K : PySem.W.Frag) (C : Addr) (R : Addr → Sp → Prop) : Sp := fun vs H Q _ => ∃ (f : Addr) (v : V) (b : Bool) (q : V → Bool), vs = [.ref f, v, .bl b] ∧ R f (spQ K q) ∧ b = q v ∧ Pr1 C H v ∧ TOk v ∧ ∀ H', Same H H' → Q (.bl true) H'
def spThings (C : Addr) : Sp := fun vs H Q _ => ∃ d : Addr, vs = [.ref d] ∧ DeckAt H d ∧ ∀ (l : Addr) (xs : List V) (H' : Hp), DeckAt H' d → Fw d H H' → H' l = some (.lst xs) → (∀ v ∈ xs, Od C d 20 300000 H' v ∧ TOk v) → Q (.ref l) H'
theorem al2 {p : V → Prop} {x : V} {xs : List V} (h : p x) (t : ∀ v ∈ xs, p v) : ∀ v ∈ x :: xs, p v := al h t
section
variable {P : Program} {w : World} {K : PySem.W.Frag} {mg : Str → Option Value} {base : Heap}
theorem scTold : FnScope ["_law_query", "_law_thing", "_law_due", "_law_written", "_law_turn", "_law_found"] ["_law_query", "_law_thing", "_law_due"] (defScope sTold) := ⟨rfl, rfl, rfl, by decide +kernel, rfl, by decide +kernel, by decide +kernel⟩
theorem ok_told {f C fW fR : Addr} {fd fdR : FuncData} {R : Addr → Sp → Prop} (F : Fun K "_law_told" "_law_told" sTold f fd) (T : WTxt K mg C fW) (B : Blt mg) (N : WIns K C) (ki : PySem.W.kitOne K (.ref C) (.type "int") = some false) (kb : PySem.W.kitOne K (.ref C) (.type "bool") = some false) (ks : PySem.W.kitOne K (.ref C) (.type "str") = some false)
    (aR : PySem.W.findIn K (.ref C) "__repr__" = some (some (.ref fR))) (iR : PySem.W.isFn K (.ref fR) = true) (bR : Binds K fdR ["self"] []) (GR : FnOk P w K mg base CX0 2 fR fdR ["self"] (spRepr C)) (hrp : mg "repr" = none) (hrg : mg "range" = none)
    (AQ : ∀ f sp, R f sp → Held P w K mg base 2 f sp) : FnG P w K mg base CX0 21 f fd ["_law_query", "_law_thing", "_law_due"] (spTold K C R) := by
  refine Fun_okG0 F scTold (fun vs H Q E h => ?_) (fun cdv A outer s H vs Q E gd hr h => ?_)
  · obtain ⟨f, v, b, q, rfl, _⟩ := h
    rfl
  · obtain ⟨f, v, b, q, rfl, hR, rfl, ⟨as, ab, th⟩, tk, k⟩ := h
    obtain ⟨t, ht⟩ := th.tells aR iR bR GR
    have len : t.length ≤ sizeLine := Nat.le_trans ht.1 (by decide)
    have says : ∀ {X : Cx}, Ctx X P w K mg base → ∀ {H1 : Hp}, Same H H1 → Says X 20 as H1 v t := fun {X} c {H1} e => ht.2 X c H1 fun b _ o h => e b o h
    refine ⟨_, (pss_cons (ps_set (i := 3) scTold.nd rfl (Or.inl rfl) (pe_callB (cr_repr (n := 20) (hr.mono (by decide)) gd) (by rfl) hrp (by decide +kernel) (pa_cons (pv 1) pa_nil)))
    (pss_cons (ps_for PassesOwn.never rfl (pi_range1 (by rfl) hrg (pa_cons pe_int pa_nil)) (pg_name (i := 4) scTold.nd rfl (Or.inl rfl))
      (pss_cons (ps_set (i := 5) scTold.nd rfl (Or.inl rfl) (pe_callV (i := 0) AQ (hr.mono (by decide)) rfl (by first | exact Or.inl rfl | exact Or.inr (Or.inl rfl) | exact Or.inr (Or.inr rfl)) (pa_cons (pv 1) pa_nil)))
    (pss_one (ps_if (PW.pt (pw_or (pt_not (pt_val (pe_callB call_isi (by rfl) B.isi (by decide +kernel) (pa_cons (pv 5) (pa_cons (pe_bltn (v := .ty "bool") (by rfl) B.bool (by decide +kernel) rfl) pa_nil))))) (pw_or1 (pt_cmpR op_ne (pv 5) (pv 2) (nomark _))))) (pss_one (ps_ret pe_bl)) pss_nil))))
    (pss_one (ps_ret (pe_cmpR op_eq (pe_callB (cr_repr (n := 20) (hr.mono (by decide)) gd) (by rfl) hrp (by decide +kernel) (pa_cons (pv 1) pa_nil)) (pv 3) (nomark _)))))), ?_⟩
    refine ⟨_, rfl, v, t, as, rfl, says ⟨rfl, rfl, rfl, rfl, rfl⟩ (Same.refl H), len, fun H1 e1 => ?_⟩
    refine ⟨2, rfl, by decide, by decide, for_range (lo := 0) (n := 2) (fun j σ H2 => Same H H2 ∧ ∃ u1 u2, σ = [some (.ref f), some v, some (.bl (q v)), some (.str t), u1, u2]) ⟨e1, _, _, rfl⟩ ?_ ?_⟩
    · rintro j σ H2 hj ⟨e2, u1, u2, rfl⟩
      refine ⟨f, _, rfl, hR, _, rfl, v, rfl, (th.congr fun b _ o h => e2 b o h).wh T.cl N ki kb, (th.congr fun b _ o h => e2 b o h).ws T.cl N ks, tk, fun H3 e3 => ?_⟩
      refine ⟨_, rfl, _, .ty "bool", _, _, true, rfl, .ty _, .base (.bl _), kit_ty (by decide +kernel), true, rfl, iteF ⟨_, rfl, _, rfl, rfl, _, rfl, ?_⟩⟩
      rw [decide_eq_true rfl]
      exact iteF ⟨e2.trans e3, _, _, rfl⟩
    · rintro σ H2 ⟨e2, u1, u2, rfl⟩
      refine ⟨_, rfl, v, t, as, rfl, says ⟨rfl, rfl, rfl, rfl, rfl⟩ e2, len, fun H3 e3 => ⟨_, rfl, rfl, ?_⟩⟩
      rw [decide_eq_true rfl]
      exact k _ (e2.trans e3)
theorem scThings : FnScope ["_law_deck_here", "_law_some", "_law_k", "_law_name_here", "_law_bent", "_law_numbers"] ["_law_deck_here"] (defScope sThings) := ⟨rfl, rfl, rfl, by decide +kernel, rfl, by decide +kernel, by decide +kernel⟩
theorem ok_things {f C fD fO fN fB : Addr} {fd fdD fdO fdN fdB : FuncData} (F : Fun K "_law_things" "_law_things" sThings f fd) (hrg : mg "range" = none)
    (cD : Cl K mg "_law_draw" fD fdD ["_law_deck_here", "_law_most"]) (GD : FnOk P w K mg base CX0 1 fD fdD ["_law_deck_here", "_law_most"] spDraw) (cO : Cl K mg "_law_odd" fO fdO ["_law_deck_here"]) (GO : FnOk P w K mg base CX0 4 fO fdO ["_law_deck_here"] (spOdd C))
    (cN : Cl K mg "_law_name" fN fdN ["_law_deck_here"]) (GN : FnOk P w K mg base CX0 2 fN fdN ["_law_deck_here"] spLName) (cB : Cl K mg "_law_text_otherwise" fB fdB ["_law_deck_here", "_law_text"]) (GB : FnOk P w K mg base CX0 3 fB fdB ["_law_deck_here", "_law_text"] spBent) : FnOk P w K mg base CX0 5 f fd ["_law_deck_here"] (spThings C) := by
  refine F.ok scThings (fun vs H Q E h => ?_) (fun cdv A outer s H vs Q E hr h => ?_)
  · obtain ⟨d, rfl, _⟩ := h
    rfl
  · obtain ⟨d, rfl, hd, k⟩ := h
    refine ⟨_, (pss_cons (ps_set (i := 1) scThings.nd rfl (Or.inl rfl) (pe_lst (pa_cons pe_int (pa_cons pe_int (pa_cons (pe_un un_neg pe_int) (pa_cons pe_int (pa_cons pe_int (pa_cons pe_int (pa_cons pe_int (pa_cons (pe_op op_sub pe_int pe_int) (pa_cons (pe_op op_pow pe_int pe_int) (pa_cons (pe_op op_sub pe_int (pe_op op_pow pe_int pe_int)) (pa_cons pe_bl (pa_cons pe_bl (pa_cons pe_str (pa_cons (pe_op op_mulS pe_str pe_int) (pa_cons (pe_op op_mulS pe_str pe_int) (pa_cons pe_str pa_nil))))))))))))))))))
    (pss_cons (ps_for PassesOwn.never rfl (pi_range1 (by rfl) hrg (pa_cons pe_int pa_nil)) (pg_name (i := 2) scThings.nd rfl (Or.inl rfl))
      (pss_cons (ps_set (i := 3) scThings.nd rfl (Or.inl rfl) (pe_call GN (hr.mono (by decide)) (by rfl) cN.g cN.k cN.b .nil pass0 (pa_cons (pv 0) pa_nil)))
    (pss_cons (ps_set (i := 4) scThings.nd rfl (Or.inl rfl) (pe_call GB (hr.mono (by decide)) (by rfl) cB.g cB.k cB.b .nil pass0 (pa_cons (pv 0) (pa_cons (pv 3) pa_nil))))
    (pss_cons (ps_set (i := 1) scThings.nd rfl (Or.inl rfl) (pe_op op_cat (pv 1) (pe_lst (pa_cons (pv 3) (pa_cons (pv 4) (pa_cons (pe_call GB (hr.mono (by decide)) (by rfl) cB.g cB.k cB.b .nil pass0 (pa_cons (pv 0) (pa_cons (pv 4) pa_nil))) (pa_cons (pe_tup (pa_cons (pv 3) pa_nil)) (pa_cons (pe_lst (pa_cons (pv 3) pa_nil)) (pa_cons (pe_disp (pps_cons (pv 3) pe_int pps_nil) (by rfl) (by rfl) (fun z => by cases z) (by decide)) (pa_cons (pe_call GO (hr.mono (by decide)) (by rfl) cO.g cO.k cO.b .nil pass0 (pa_cons (pv 0) pa_nil)) pa_nil))))))))))
    (pss_cons (ps_set (i := 5) scThings.nd rfl (Or.inl rfl) (pe_lst (pa_cons (pe_call GD (hr.mono (by decide)) (by rfl) cD.g cD.k cD.b .nil pass0 (pa_cons (pv 0) (pa_cons pe_int pa_nil))) (pa_cons (pe_op op_add (pe_op op_pow pe_int pe_int) (pe_call GD (hr.mono (by decide)) (by rfl) cD.g cD.k cD.b .nil pass0 (pa_cons (pv 0) (pa_cons pe_int pa_nil)))) (pa_cons (pe_op op_sub pe_int (pe_call GD (hr.mono (by decide)) (by rfl) cD.g cD.k cD.b .nil pass0 (pa_cons (pv 0) (pa_cons pe_int pa_nil)))) pa_nil)))))
    (pss_one (ps_expr (pe_bm PySem.F.plainAttrs_list PySem.F.slot_list_append PySem.F.type_list_append mt_append (pv 1) (pa_cons (pe_ix ix_list (pv 5) (pe_call GD (hr.mono (by decide)) (by rfl) cD.g cD.k cD.b .nil pass0 (pa_cons (pv 0) (pa_cons pe_int pa_nil))) (fun _ _ => rfl)) pa_nil)))))))))
    (pss_one (ps_ret (pv 1))))), ?_⟩
    have up : ∀ {H p o}, H p = none → Fw d H (upd H p o) := fun h => Fw.upd h
    have p39 : CPow (10 : Int) (39 : Int) := (by show (0:Int) ≤ 39 ∧ (39:Int) ≤ 1000000 ∧ (10:Int).natAbs < 2 ^ 64; decide)
    have p30 : CPow (10 : Int) (30 : Int) := (by show (0:Int) ≤ 30 ∧ (30:Int) ≤ 1000000 ∧ (10:Int).natAbs < 2 ^ 64; decide)
    have oi : ∀ {i : Int} {H : Hp}, Sz 1600 i → Od C d 20 300000 H (.int i) ∧ TOk (.int i) := fun z => ⟨od_int z (by decide), tok_int⟩
    have ob : ∀ {b : Bool} {H : Hp}, Od C d 20 300000 H (.bl b) ∧ TOk (.bl b) := ⟨od_bl (by decide), tok_bl⟩
    have os : ∀ {x : Str} {H : Hp}, Asc x → x.length ≤ 1000 → Od C d 20 300000 H (.str x) ∧ TOk (.str x) := fun a l => ⟨od_text a (by omega), tok_str a (by omega)⟩
    refine ⟨_, rfl, _, _, rfl, rfl, _, _, rfl, rfl, p39, _, _, rfl, rfl, p39, _, _, rfl, rfl, _, _, rfl, rfl, by unfold MulOk; decide +kernel, _, _, rfl, rfl, by unfold MulOk; decide +kernel, (by show 16 ≤ sizeLine; decide), fun l0 hl0 => ?_⟩
    refine ⟨6, rfl, by decide, by decide, for_range (lo := 0) (n := 6) (fun j σ H2 => ∃ l xs u2 u3 u4 u5, σ = [some (.ref d), some (.ref l), u2, u3, u4, u5] ∧ H2 l = some (.lst xs) ∧ l ≠ d ∧ xs.length = 16 + 8 * j ∧ (∀ v ∈ xs, Od C d 20 300000 H2 v ∧ TOk v) ∧ DeckAt H2 d ∧ Fw d H H2) ?_ ?_ ?_⟩
    · refine ⟨l0, _, _, _, _, _, rfl, upd_same, hd.ne hl0, rfl, ?_, hd.upd hl0, up hl0⟩
      refine al (oi (by unfold Sz; decide)) (al (oi (by unfold Sz; decide)) (al (oi (by unfold Sz; decide)) (al (oi (by unfold Sz; decide)) (al (oi (by unfold Sz; decide)) (al (oi (by unfold Sz; decide)) (al (oi (by unfold Sz; decide)) (al (oi (by unfold Sz; decide))
        (al (oi (by unfold Sz; decide +kernel)) (al (oi (by unfold Sz; decide +kernel)) (al ob (al ob (al (os (asc_lit _ (by decide +kernel)) (by decide +kernel)) (al (os (asc_lit _ (by decide +kernel)) (by decide +kernel)) (al (os (asc_lit _ (by decide +kernel)) (by decide +kernel)) (al (os (asc_lit _ (by decide +kernel)) (by decide +kernel)) al0)))))))))))))))
    · rintro j σ T0 hj ⟨l, xs, u2, u3, u4, u5, rfl, hl, nl, ln, R, D, G⟩
      refine ⟨_, rfl, d, rfl, D, fun z1 T1 a1 l1 D1 f1 => ?_⟩
      refine ⟨_, rfl, _, rfl, d, z1, rfl, D1, a1, by omega, fun z2 T2 a2 l2 D2 f2 => ?_⟩
      refine ⟨_, rfl, _, rfl, _, rfl, _, rfl, _, rfl, d, z2, rfl, D2, a2, by omega, fun z3 T3 a3 l3 D3 f3 => ?_⟩
      have f03 := (f1.trans f2).trans f3
      have hl3 := f03.kp _ _ nl hl
      have R3 : ∀ v ∈ xs, Od C d 20 300000 T3 v ∧ TOk v := fun v hv => ⟨(R v hv).1.fw f03, (R v hv).2⟩
      have G3 := G.trans f03
      clear R G hl D D1 D2 f1 f2 f3 f03
      have tx : ∀ {z : Str} {H : Hp} {N : Nat}, Asc z → z.length ≤ 1000 → Od C d N 40000 H (.str z) := fun a l => by
        have h1 := StrLaws.reprText_len _ fun c hc => Nat.lt_trans (a c hc) (by decide)
        exact od_str a (by omega) (Nat.le_trans h1 (by omega)) (Nat.le_trans h1 (Nat.le_trans (show _ ≤ 200000 by omega) (by decide)))
      refine ⟨_, rfl, (by show 1 ≤ sizeLine; decide), fun p1 h1 => ⟨_, rfl, (by show 1 ≤ sizeLine; decide), fun p2 h2 p3 h3 => ⟨_, rfl, upd_same, [(.inr z1, .int 1)], rfl, (by show 1 ≤ 15; decide), ?_⟩⟩⟩
      have em : mergeK [] [((.inr z1 : Key), V.int 1)] = [(.inr z1, .int 1)] := rfl
      rw [upd_upd, em]
      have o1 := od_tup (C := C) (N := 0) (M := 40000) (N' := 20) (M' := 300000) (xs := [.str z1]) h1 (D3.ne h1) (al (tx a1 (by omega)) al0) (by decide) (by show 1 * 40002 + 3 ≤ 300000; decide)
      have D4 := D3.upd (o := .tup [.str z1]) h1
      have o2 := od_lst (C := C) (N := 0) (M := 40000) (N' := 20) (M' := 300000) (xs := [.str z1]) h2 (D4.ne h2) (al (tx a1 (by omega)) al0) (by decide) (by show 1 * 40002 + 3 ≤ 300000; decide)
      have D5 := D4.upd (o := .lst [.str z1]) h2
      have o3 := od_dicK (C := C) (N := 0) (M := 40000) (N' := 20) (M' := 300000) (kvs := [(.inr z1, .int 1)]) h3 (D5.ne h3) (fun kv hk => by
        cases List.mem_singleton.mp hk
        exact ⟨od_int (by unfold Sz; decide) (by decide), tx a1 (by omega)⟩) (by decide) (by show 1 * (2 * 40000 + 4) + 3 ≤ 300000; decide)
      have D6 := D5.upd (o := .dK [(.inr z1, .int 1)]) h3
      have w1 := up (o := .tup [.str z1]) h1
      have w2 := up (o := .lst [.str z1]) h2
      have w3 := up (o := .dK [(.inr z1, .int 1)]) h3
      refine ⟨_, rfl, d, rfl, D6, fun v4 T4 ov D7 f7 => ⟨(by show 7 ≤ sizeLine; decide), fun l2 hl2 => ?_⟩⟩
      have tk4 : TOk v4 := ov.tok
      have w4 := up (o := .lst [.str z1, .str z2, .str z3, .ref p1, .ref p2, .ref p3, v4]) hl2
      have W := (((w1.trans w2).trans w3).trans f7).trans w4
      have D8 := D7.upd (o := .lst [.str z1, .str z2, .str z3, .ref p1, .ref p2, .ref p3, v4]) hl2
      have new : ∀ v ∈ [.str z1, .str z2, .str z3, .ref p1, .ref p2, .ref p3, v4], Od C d 20 300000 (upd T4 l2 (.lst [.str z1, .str z2, .str z3, .ref p1, .ref p2, .ref p3, v4])) v ∧ TOk v :=
        al (os a1 (by omega)) (al (os a2 (by omega)) (al (os a3 (by omega)) (al ⟨(((o1.fw w2).fw w3).fw f7).fw w4, tok_ref⟩ (al ⟨((o2.fw w3).fw f7).fw w4, tok_ref⟩ (al ⟨(o3.fw f7).fw w4, tok_ref⟩ (al ⟨ov.fw w4, tk4⟩ al0))))))
      have old : ∀ v ∈ xs, Od C d 20 300000 (upd T4 l2 (.lst [.str z1, .str z2, .str z3, .ref p1, .ref p2, .ref p3, v4])) v ∧ TOk v := fun v hv => ⟨(R3 v hv).1.fw W, (R3 v hv).2⟩
      have hlW := W.kp _ _ nl hl3
      have G8 := G3.trans W
      have hl2' : (upd T4 l2 (.lst [.str z1, .str z2, .str z3, .ref p1, .ref p2, .ref p3, v4])) l2 = some (.lst [.str z1, .str z2, .str z3, .ref p1, .ref p2, .ref p3, v4]) := upd_same
      clear o1 o2 o3 w1 w2 w3 w4 W D3 D4 D5 D6 D7 R3 G3 hl3
      generalize upd T4 l2 (.lst [.str z1, .str z2, .str z3, .ref p1, .ref p2, .ref p3, v4]) = T5 at *
      refine ⟨l, l2, _, _, rfl, rfl, hlW, hl2', Nat.le_trans (show xs.length + 7 ≤ 200 by omega) (by decide), fun l3 hl3 => ?_⟩
      have both : ∀ v ∈ xs ++ [.str z1, .str z2, .str z3, .ref p1, .ref p2, .ref p3, v4], Od C d 20 300000 T5 v ∧ TOk v := fun v hv => (List.mem_append.mp hv).elim (old v) (new v)
      have lnb : (xs ++ [V.str z1, .str z2, .str z3, .ref p1, .ref p2, .ref p3, v4]).length = 16 + 8 * j + 7 := by rw [List.length_append, ln]; rfl
      generalize xs ++ [V.str z1, .str z2, .str z3, .ref p1, .ref p2, .ref p3, v4] = ys at *
      have nl3 := D8.ne hl3
      have D9 := D8.upd (o := .lst ys) hl3
      have w5 := up (o := .lst ys) hl3
      have hl3' : (upd T5 l3 (.lst ys)) l3 = some (.lst ys) := upd_same
      have hl30 : H l3 = none := G8.nn l3 hl3
      refine ⟨_, rfl, d, 3000, rfl, by decide, by decide, D9, fun r1 r10 r11 T6 E1 e1 => ⟨_, _, rfl, rfl, p30, _, rfl, d, 1000, rfl, by decide, by decide, E1, fun r2 r20 r21 T7 E2 e2 => ⟨_, _, rfl, rfl, _, rfl, d, 9, rfl, by decide, by decide, E2, fun r3 r30 r31 T8 E3 e3 => ⟨_, _, rfl, rfl, (by show 3 ≤ sizeLine; decide), fun l4 hl4 => ?_⟩⟩⟩⟩
      have w8 := ((w5.trans (Fw.draw E1 e1)).trans (Fw.draw E2 e2)).trans (Fw.draw E3 e3)
      have E4 := E3.upd (o := .lst [.int r1, .int (10 ^ (30 : Int).toNat + r2), .int (0 - r3)]) hl4
      have w9 := up (o := .lst [.int r1, .int (10 ^ (30 : Int).toNat + r2), .int (0 - r3)]) hl4
      have hl5 := (((Fw.draw E1 e1).trans (Fw.draw E2 e2)).trans ((Fw.draw E3 e3).trans w9)).kp _ _ nl3 hl3'
      have nl4 := E3.ne hl4
      refine ⟨_, rfl, .inl ⟨rfl, _, SqL.of hl5⟩, ?_⟩
      refine ⟨_, rfl, _, rfl, d, 3, rfl, by decide, by decide, E4, fun r4 r40 r41 T9 E5 e5 => ?_⟩
      obtain ⟨v5, hv5, mv5⟩ := at_in (xs := [.int r1, .int (10 ^ (30 : Int).toNat + r2), .int (0 - r3)]) r40 r41
      have w10 := Fw.draw E5 e5
      refine ⟨l4, _, _, v5, rfl, rfl, SqL.of ((e5 l4 nl4).trans upd_same), hv5, l3, _, _, rfl, rfl, w10.kp _ _ nl3 hl5, Nat.lt_of_le_of_lt (show ys.length ≤ 200 by omega) (by decide), ?_⟩
      have num : ∃ i : Int, v5 = .int i ∧ Sz 1600 i := by
        have m30 : (10 : Int) ^ (30 : Int).toNat = 1000000000000000000000000000000 := by decide +kernel
        have big : ∀ i : Int, i.natAbs ≤ 10000000000000000000000000000000 → Sz 1600 i := fun i h => Sz.mono (a := 200) (by unfold Sz; omega) (by decide)
        rcases List.mem_cons.mp mv5 with rfl | mv
        · exact ⟨_, rfl, big _ (by omega)⟩
        · rcases List.mem_cons.mp mv with rfl | mv
          · exact ⟨_, rfl, big _ (by rw [m30]; omega)⟩
          · rw [List.mem_singleton.mp mv]
            exact ⟨_, rfl, big _ (by omega)⟩
      obtain ⟨i5, rfl, z5⟩ := num
      have wA := w8.trans (w9.trans w10)
      refine ⟨l3, _, _, _, _, _, rfl, upd_same, nl3, by rw [List.length_append, lnb]; show 16 + 8 * j + 7 + 1 = _; omega, fun v hv => ?_, ?_, (G8.trans wA).at hl30⟩
      · rcases List.mem_append.mp hv with hv | hv
        · exact ⟨(both v hv).1.over hl3 wA, (both v hv).2⟩
        · rw [List.mem_singleton.mp hv]
          exact oi z5
      · obtain ⟨a, b, c, h⟩ := E5
        exact ⟨a, b, c, by rw [upd_ne (Ne.symm nl3)]; exact h⟩
    · rintro σ T0 ⟨l, xs, u2, u3, u4, u5, rfl, hl, nl, ln, R, D, G⟩
      exact ⟨_, rfl, k l xs T0 D G hl R⟩
end
end K
namespace K
open PySem L2 Rp
def Rq (K : PySem.W.Frag) (fN fG fD : Addr) : Addr → Sp → Prop := fun f sp => ∃ q, sp = spQ K q ∧ ((f = fN ∧ q = nmV) ∨ (f = fG ∧ q = grV) ∨ (f = fD ∧ q = dyV))
section
variable {P : Program} {w : World} {K : PySem.W.Frag} {mg : Str → Option Value} {base : Heap}
theorem held_q {fN fG fD : Addr} {dN dG dD : FuncData} {p : Str} (N : FnOk P w K mg base CX0 2 fN dN [p] (spQ K nmV)) (G : FnOk P w K mg base CX0 2 fG dG [p] (spQ K grV)) (D : FnOk P w K mg base CX0 2 fD dD [p] (spQ K dyV))
    (kN : PySem.W.keepIn K (.ref fN) = true) (kG : PySem.W.keepIn K (.ref fG) = true) (kD : PySem.W.keepIn K (.ref fD) = true) (bN : Binds K dN [p] []) (bG : Binds K dG [p] []) (bD : Binds K dD [p] []) :
    ∀ f sp, Rq K fN fG fD f sp → Held P w K mg base 2 f sp := by
  rintro f sp ⟨q, rfl, ⟨rfl, rfl⟩ | ⟨rfl, rfl⟩ | ⟨rfl, rfl⟩⟩
  · exact ⟨_, _, N, kN, bN⟩
  · exact ⟨_, _, G, kG, bG⟩
  · exact ⟨_, _, D, kD, bD⟩
theorem scLaw : FnScope ["_law_script", "_law_cell", "_law_thing", "_law_query", "_law_look"] ["_law_script"] (defScope sLaw) := ⟨rfl, rfl, rfl, by decide +kernel, rfl, by decide +kernel, by decide +kernel⟩
theorem ok_law {f C fW fDk fT fTo fN fG fD hN hG hD : Addr} {fd dDk dT dTo : FuncData} (F : Fun K "law" "law" sLaw f fd) (T : WTxt K mg C fW) (N : WIns K C) (ki : PySem.W.kitOne K (.ref C) (.type "int") = some false) (kb : PySem.W.kitOne K (.ref C) (.type "bool") = some false) (ks : PySem.W.kitOne K (.ref C) (.type "str") = some false)
    (gN : mg "is_name" = some (.ref fN)) (gG : mg "is_grains" = some (.ref fG)) (gD : mg "is_day" = some (.ref fD)) (kN : mg "_law_is_name" = some (.ref hN)) (kG : mg "_law_is_grains" = some (.ref hG)) (kD : mg "_law_is_day" = some (.ref hD))
    (AL : ∀ f sp, Rq K hN hG hD f sp → Held P w K mg base 2 f sp)
    (cDk : Cl K mg "_law_deck" fDk dDk ["_law_cell"]) (GDk : FnOk P w K mg base CX0 1 fDk dDk ["_law_cell"] spDeck)
    (cT : Cl K mg "_law_things" fT dT ["_law_deck_here"]) (GT : FnOk P w K mg base CX0 5 fT dT ["_law_deck_here"] (spThings C))
    (cTo : Cl K mg "_law_told" fTo dTo ["_law_query", "_law_thing", "_law_due"]) (GTo : FnG P w K mg base CX0 21 fTo dTo ["_law_query", "_law_thing", "_law_due"] (spTold K C (Rq K fN fG fD))) : FnG P w K mg base CX0 22 f fd ["_law_script"] (spLaw K) := by
  refine Fun_okG0 F scLaw (fun vs H Q E h => ?_) (fun cdv A outer s H vs Q E gd hr h => ?_)
  · obtain ⟨a, ns, rfl, _⟩ := h
    rfl
  · obtain ⟨a, ns, rfl, hS, hlen, k⟩ := h
    refine ⟨_, (pss_cons (ps_for PassesOwn.never rfl (pi_list (pe_op op_cat (pe_slice sl_list (pv 0) po_none (po_some pe_int)) (pe_lst (pa_cons pe_int pa_nil)))) (pg_name (i := 1) scLaw.nd rfl (Or.inl rfl))
      (pss_one (ps_for PassesOwn.never rfl (pi_list (pe_call GT (hr.mono (by decide)) (by rfl) cT.g cT.k cT.b .nil pass0 (pa_cons (pe_call GDk (hr.mono (by decide)) (by rfl) cDk.g cDk.k cDk.b .nil pass0 (pa_cons (pv 1) pa_nil)) pa_nil))) (pg_name (i := 2) scLaw.nd rfl (Or.inl rfl))
      (pss_one (ps_for PassesOwn.never rfl (pi_list (pe_lst (pa_cons (pe_tup (pa_cons (pe_glob (v := .ref fN) (by rfl) gN rfl) (pa_cons (pe_glob (v := .ref hN) (by rfl) kN rfl) pa_nil))) (pa_cons (pe_tup (pa_cons (pe_glob (v := .ref fG) (by rfl) gG rfl) (pa_cons (pe_glob (v := .ref hG) (by rfl) kG rfl) pa_nil))) (pa_cons (pe_tup (pa_cons (pe_glob (v := .ref fD) (by rfl) gD rfl) (pa_cons (pe_glob (v := .ref hD) (by rfl) kD rfl) pa_nil))) pa_nil))))) (pg_tup rfl (pgs_cons (pg_name (i := 3) scLaw.nd rfl (Or.inl rfl)) (pgs_cons (pg_name (i := 4) scLaw.nd rfl (Or.inl rfl)) pgs_nil)))
      (pss_one (ps_if (pt_not (pt_val (pe_callG GTo gd (hr.mono (by decide)) (by rfl) cTo.g cTo.k cTo.b .nil pass0 (pa_cons (pv 3) (pa_cons (pv 2) (pa_cons (pe_callV (i := 4) AL (hr.mono (by decide)) rfl (by first | exact Or.inl rfl | exact Or.inr (Or.inl rfl) | exact Or.inr (Or.inr rfl)) (pa_cons (pv 2) pa_nil)) pa_nil)))))) (pss_one (ps_ret pe_bl)) pss_nil)))))))
    (pss_one (ps_ret pe_bl))), ?_⟩
    refine ⟨_, rfl, 10, rfl, a, _, rfl, hS, fun p1 h1 => ⟨(by show 1 ≤ sizeLine; decide), fun p2 h2 => ?_⟩⟩
    have n12 : p1 ≠ p2 := fun z => by rw [← z, upd_same] at h2; cases h2
    have hcut : (cutV (ns.map V.int) none (some 10)).length ≤ 63 := by
      have := cutV_length (ns.map V.int) none (some 10)
      rw [List.length_map] at this
      omega
    refine ⟨p1, p2, _, _, rfl, rfl, by rw [upd_ne n12]; exact upd_same, upd_same, ?_, fun p3 h3 => ?_⟩
    · have e : ([V.int 3] : List V).length = 1 := rfl
      rw [e]
      exact Nat.le_trans (Nat.add_le_add_right hcut 1) (by decide)
    have allz : ∀ (i : Nat) (x : V), (cutV (ns.map V.int) none (some 10) ++ [V.int 3])[i]? = some x → ∃ z, x = .int z := fun i x hx => by
      have hm := List.mem_of_getElem? hx
      rcases List.mem_append.mp hm with z | z
      · have z2 : x ∈ ns.map V.int := List.mem_of_mem_drop (List.mem_of_mem_take z)
        obtain ⟨n, _, e⟩ := List.mem_map.mp z2
        exact ⟨n, e.symm⟩
      · exact ⟨3, List.mem_singleton.mp z⟩
    generalize hH0 : upd (upd (upd H p1 (.lst (cutV (ns.map V.int) none (some 10)))) p2 (.lst [V.int 3])) p3 (.lst (cutV (ns.map V.int) none (some 10) ++ [V.int 3])) = H0
    generalize hcs : cutV (ns.map V.int) none (some 10) ++ [V.int 3] = cs at *
    have hL0 : H0 p3 = some (.lst cs) := by rw [← hH0]; exact upd_same
    refine ⟨p3, rfl, ⟨_, SqL.of hL0⟩, for_list (K := K) (a := p3) (xs := cs) (fun i σ H' => Same H0 H' ∧ ∃ v1 v2 v3 v4, σ = [some (.ref a), v1, v2, v3, v4])
      ⟨Same.refl _, none, none, none, none, rfl⟩ (fun i σ H' _ ⟨e, _⟩ => e.seq (SqL.of hL0)) ?_ ?_⟩
    · rintro i x σ H' hx ⟨e0, v1, v2, v3, v4, rfl⟩
      obtain ⟨z, rfl⟩ := allz i x hx
      refine ⟨_, rfl, z, rfl, fun d hd H1 d1 q1 => ?_⟩
      have e1 : Same H' H1 := fun y o hy => (q1 y (ne_of_none hy hd)).trans hy
      have frame : ∀ {H2 : Hp}, Fw d H1 H2 → Same H' H2 := fun f y o hy => f.kp y o (ne_of_none hy hd) (e1 _ _ hy)
      refine ⟨d, rfl, d1, fun l xs H2 d2 f2 hl R => ?_⟩
      refine ⟨l, rfl, ⟨_, SqL.of hl⟩, for_list (K := K) (a := l) (xs := xs) (fun i σ H3 => Same H2 H3 ∧ ∃ u2 u3 u4, σ = [some (.ref a), some (.int z), u2, u3, u4])
        ⟨Same.refl _, _, _, _, rfl⟩ (fun i σ H' _ ⟨e, _⟩ => e.seq (SqL.of hl)) ?_ ?_⟩
      · rintro i v σ H3 hv ⟨e3, u2, u3, u4, rfl⟩
        obtain ⟨ov, tv⟩ := R v (List.mem_of_getElem? hv)
        refine ⟨(by show 2 ≤ sizeLine; decide), fun q1 hq1 => ⟨(by show 2 ≤ sizeLine; decide), fun q2 hq2 => ⟨(by show 2 ≤ sizeLine; decide), fun q3 hq3 => ⟨(by show 3 ≤ sizeLine; decide), fun l4 hl4 => ?_⟩⟩⟩⟩
        have s1 := same_upd (o := .tup [.ref fN, .ref hN]) hq1
        have s2 := same_upd (o := .tup [.ref fG, .ref hG]) hq2
        have s3 := same_upd (o := .tup [.ref fD, .ref hD]) hq3
        have s4 := same_upd (o := .lst [.ref q1, .ref q2, .ref q3]) hl4
        have c1 := s4 _ _ (s3 _ _ (s2 _ _ (upd_same (H := H3) (a := q1) (o := .tup [.ref fN, .ref hN]))))
        have c2 := s4 _ _ (s3 _ _ (upd_same (a := q2) (o := .tup [.ref fG, .ref hG])))
        have c3 := s4 _ _ (upd_same (a := q3) (o := .tup [.ref fD, .ref hD]))
        have e4 := e3.trans (((s1.trans s2).trans s3).trans s4)
        have hl5 := upd_same (H := upd (upd (upd H3 q1 (.tup [.ref fN, .ref hN])) q2 (.tup [.ref fG, .ref hG])) q3 (.tup [.ref fD, .ref hD])) (a := l4) (o := .lst [.ref q1, .ref q2, .ref q3])
        generalize upd (upd (upd (upd H3 q1 (.tup [V.ref fN, .ref hN])) q2 (.tup [.ref fG, .ref hG])) q3 (.tup [.ref fD, .ref hD])) l4 (.lst [.ref q1, .ref q2, .ref q3]) = H4 at *
        have each : ∀ (i : Nat) (x : V), [V.ref q1, V.ref q2, V.ref q3][i]? = some x → ∃ (p f g : Addr) (q : V → Bool), x = .ref p ∧ H4 p = some (.tup [.ref f, .ref g]) ∧ Rq K fN fG fD f (spQ K q) ∧ Rq K hN hG hD g (spQ K q) := fun i x hx => by
          match i, hx with
          | 0, hx => cases hx; exact ⟨q1, fN, hN, nmV, rfl, c1, ⟨_, rfl, .inl ⟨rfl, rfl⟩⟩, ⟨_, rfl, .inl ⟨rfl, rfl⟩⟩⟩
          | 1, hx => cases hx; exact ⟨q2, fG, hG, grV, rfl, c2, ⟨_, rfl, .inr (.inl ⟨rfl, rfl⟩)⟩, ⟨_, rfl, .inr (.inl ⟨rfl, rfl⟩)⟩⟩
          | 2, hx => cases hx; exact ⟨q3, fD, hD, dyV, rfl, c3, ⟨_, rfl, .inr (.inr ⟨rfl, rfl⟩)⟩, ⟨_, rfl, .inr (.inr ⟨rfl, rfl⟩)⟩⟩
          | i + 3, hx => cases hx
        refine ⟨l4, rfl, ⟨_, SqL.of hl5⟩, for_list (K := K) (a := l4) (xs := [.ref q1, .ref q2, .ref q3]) (fun i σ H5 => Same H4 H5 ∧ ∃ u3 u4, σ = [some (.ref a), some (.int z), some v, u3, u4])
          ⟨Same.refl _, _, _, rfl⟩ (fun i σ H' _ ⟨e, _⟩ => e.seq (SqL.of hl5)) ?_ ?_⟩
        · rintro i x σ H5 hx ⟨e5, u3, u4, rfl⟩
          obtain ⟨p, f, g, q, rfl, hp, r1, r2⟩ := each i x hx
          have ov5 := (ov.same e4).same e5
          obtain ⟨as5, _, _, th5⟩ := ov5
          refine ⟨p, _, rfl, SqT.of (e5 _ _ hp), rfl, _, _, rfl, _, _, rfl, rfl, ?_⟩
          refine ⟨_, rfl, _, rfl, g, _, rfl, r2, _, rfl, v, rfl, th5.wh T.cl N ki kb, th5.ws T.cl N ks, tv, fun H6 e6 => ?_⟩
          refine ⟨f, v, q v, q, rfl, r1, rfl, (pr1_of ((ov.same e4).same e5)).same e6, tv, fun H7 e7 => ⟨true, rfl, iteF ⟨e5.trans (e6.trans e7), _, _, rfl⟩⟩⟩
        · rintro σ H5 ⟨e5, u3, u4, rfl⟩
          exact ⟨e4.trans e5, _, _, _, rfl⟩
      · rintro σ H3 ⟨e3, u2, u3, u4, rfl⟩
        exact ⟨e0.trans (frame (f2.trans (Fw.of_same e3))), _, _, _, _, rfl⟩
    · rintro σ H' ⟨e0, v1, v2, v3, v4, rfl⟩
      exact k H'
end
end K
namespace K
open PySem L2 Rp
theorem bindsI {K : PySem.W.Frag} {f : Addr} {fd : FuncData} (F : FunI K f fd) : Binds K fd ["self", "top", "bottom"] [] := by
  obtain ⟨ds, v, b⟩ := F.binds1 (ps := ["self", "top", "bottom"]) 3 1 (by simp) rfl fun T kV dc pm an cd ct us its hu hi => match us, its, hu, hi with | [_, _, _], [_], _, _ => ⟨_, rfl, rfl⟩
  cases v
  exact b
theorem bindsI1 {K : PySem.W.Frag} {f : Addr} {fd : FuncData} (F : FunI K f fd) : ∃ ds, Vals [V.int 1] ds ∧ Binds K fd ["self", "top", "bottom"] ds := by
  obtain ⟨ds, v, b⟩ := F.binds1 (ps := ["self", "top", "bottom"]) 2 0 (by simp) rfl fun T kV dc pm an cd ct us its hu hi => match us, its, hu, hi with | [_, _], [_], _, _ => ⟨_, rfl, rfl⟩
  exact ⟨ds, v, b⟩
theorem all_mk {l : PySem.W.OpenLaw} {w : World} {K : PySem.W.Frag} {h : Heap} {mg : Str → Option Value} {fa C fInit fRepr fMade fShow fWhole fName fGrains fDay fDeck fDraw fLWhole fTold fSign fOdd fLName fBent fLIsName fLIsDay fLIsGrains fThings fLaw : Addr} (X : K.In h) (G : h.Ns mainGlobals mg) (hfa : mg "law" = some (.ref fa))
    {odInit anInit : Option Addr} {slInit : Array (Option Value)} {ocInit kVInit dcInit pmInit cdInit ctInit : Value}
    {ocDInit : Value} {odDInit : Option Addr} {nDInit : Nat} {slDInit : Array (Option Value)} {tkDInit : Tok} {DInit : Addr}
    {odRepr anRepr : Option Addr} {slRepr : Array (Option Value)} {ocRepr kVRepr dcRepr pmRepr cdRepr ctRepr : Value}
    {odMade anMade : Option Addr} {slMade : Array (Option Value)} {ocMade kVMade dcMade pmMade cdMade ctMade : Value}
    {odShow anShow : Option Addr} {slShow : Array (Option Value)} {ocShow kVShow dcShow pmShow cdShow ctShow : Value}
    {odWhole anWhole : Option Addr} {slWhole : Array (Option Value)} {ocWhole kVWhole dcWhole pmWhole cdWhole ctWhole : Value}
    {odName anName : Option Addr} {slName : Array (Option Value)} {ocName kVName dcName pmName cdName ctName : Value}
    {odGrains anGrains : Option Addr} {slGrains : Array (Option Value)} {ocGrains kVGrains dcGrains pmGrains cdGrains ctGrains : Value}
    {odDay anDay : Option Addr} {slDay : Array (Option Value)} {ocDay kVDay dcDay pmDay cdDay ctDay : Value}
    {odDeck anDeck : Option Addr} {slDeck : Array (Option Value)} {ocDeck kVDeck dcDeck pmDeck cdDeck ctDeck : Value}
    {odDraw anDraw : Option Addr} {slDraw : Array (Option Value)} {ocDraw kVDraw dcDraw pmDraw cdDraw ctDraw : Value}
    {odLWhole anLWhole : Option Addr} {slLWhole : Array (Option Value)} {ocLWhole kVLWhole dcLWhole pmLWhole cdLWhole ctLWhole : Value}
    {odTold anTold : Option Addr} {slTold : Array (Option Value)} {ocTold kVTold dcTold pmTold cdTold ctTold : Value}
    {odSign anSign : Option Addr} {slSign : Array (Option Value)} {ocSign kVSign dcSign pmSign cdSign ctSign : Value}
    {odOdd anOdd : Option Addr} {slOdd : Array (Option Value)} {ocOdd kVOdd dcOdd pmOdd cdOdd ctOdd : Value}
    {odLName anLName : Option Addr} {slLName : Array (Option Value)} {ocLName kVLName dcLName pmLName cdLName ctLName : Value}
    {odBent anBent : Option Addr} {slBent : Array (Option Value)} {ocBent kVBent dcBent pmBent cdBent ctBent : Value}
    {odLIsName anLIsName : Option Addr} {slLIsName : Array (Option Value)} {ocLIsName kVLIsName dcLIsName pmLIsName cdLIsName ctLIsName : Value}
    {odLIsDay anLIsDay : Option Addr} {slLIsDay : Array (Option Value)} {ocLIsDay kVLIsDay dcLIsDay pmLIsDay cdLIsDay ctLIsDay : Value}
    {odLIsGrains anLIsGrains : Option Addr} {slLIsGrains : Array (Option Value)} {ocLIsGrains kVLIsGrains dcLIsGrains pmLIsGrains cdLIsGrains ctLIsGrains : Value}
    {odThings anThings : Option Addr} {slThings : Array (Option Value)} {ocThings kVThings dcThings pmThings cdThings ctThings : Value}
    {odLaw anLaw : Option Addr} {slLaw : Array (Option Value)} {ocLaw kVLaw dcLaw pmLaw cdLaw ctLaw : Value}
    {zBLK : Int} {tBLK : Tok}
    {zML : Int} {tML : Tok}
    {zLT : Str} {tLT : Tok}
    {zLD : Int} {tLD : Tok}
    (aC : PySem.W.nsIn K mainGlobals "Weight" = some (some (.ref C)))
    (pgC : PySem.W.plainGet K C Str.empty = true)
    (hdC : PySem.W.hasDictIn K C = true)
    (poC : PySem.W.plainOver K C = true)
    (saC : PySem.W.findIn K (.ref C) "__setattr__" = some (some (.builtin "object.__setattr__")))
    (mkC : PySem.W.makesIn K C = true)
    (kcC : PySem.W.keepIn K (.ref C) = true)
    (nC_top : PySem.W.findIn K (.ref C) "top" = some none)
    (nC_bottom : PySem.W.findIn K (.ref C) "bottom" = some none)
    (waC : PySem.W.findIn K (.ref C) "__class__" = some (some (.builtin "object.__class__")))
    (wmC : PySem.W.mroIn K C (.type "object") = some true)
    (wneC : PySem.W.findIn K (.ref C) "__ne__" = some (some (.builtin "object.__ne__")))
    (wn : PySem.W.specialIn K (.builtin "object.__class__") "__get__" = some (some (.builtin "getset_descriptor.__get__")))
    (wt : PySem.W.takesIn K (.builtin "object.__class__") = some true)
    (aInit : PySem.W.findIn K (.ref C) "__init__" = some (some (.ref fInit)))
    (iInit : PySem.W.isFn K (.ref fInit) = true)
    (lInit : K.lookup fInit = some ⟨ocInit, odInit, .func (PySem.W.fnOf "__init__" "Weight.__init__" (defArgs sInit) (defBody sInit) (defScope sInit) (.ref DInit) kVInit dcInit pmInit anInit cdInit ctInit), slInit⟩)
    (cInit : PySem.W.codeIn K cdInit "Weight.__init__" = true)
    (kInit : PySem.W.keepIn K (.ref fInit) = true)
    (lDInit : K.lookup DInit = some ⟨ocDInit, odDInit, .seq ([Value.int 1 tkDInit] : List Value).toArray nDInit, slDInit⟩)
    (aRepr : PySem.W.findIn K (.ref C) "__repr__" = some (some (.ref fRepr)))
    (iRepr : PySem.W.isFn K (.ref fRepr) = true)
    (lRepr : K.lookup fRepr = some ⟨ocRepr, odRepr, .func (PySem.W.fnOf "__repr__" "Weight.__repr__" (defArgs sRepr) (defBody sRepr) (defScope sRepr) .none kVRepr dcRepr pmRepr anRepr cdRepr ctRepr), slRepr⟩)
    (cRepr : PySem.W.codeIn K cdRepr "Weight.__repr__" = true)
    (kRepr : PySem.W.keepIn K (.ref fRepr) = true)
    (aMade : PySem.W.nsIn K mainGlobals "made_of" = some (some (.ref fMade)))
    (lMade : K.lookup fMade = some ⟨ocMade, odMade, .func (PySem.W.fnOf "made_of" "made_of" (defArgs sMade) (defBody sMade) (defScope sMade) .none kVMade dcMade pmMade anMade cdMade ctMade), slMade⟩)
    (cMade : PySem.W.codeIn K cdMade "made_of" = true)
    (kMade : PySem.W.keepIn K (.ref fMade) = true)
    (aShow : PySem.W.nsIn K mainGlobals "show_whole" = some (some (.ref fShow)))
    (lShow : K.lookup fShow = some ⟨ocShow, odShow, .func (PySem.W.fnOf "show_whole" "show_whole" (defArgs sShow) (defBody sShow) (defScope sShow) .none kVShow dcShow pmShow anShow cdShow ctShow), slShow⟩)
    (cShow : PySem.W.codeIn K cdShow "show_whole" = true)
    (kShow : PySem.W.keepIn K (.ref fShow) = true)
    (aWhole : PySem.W.nsIn K mainGlobals "is_whole" = some (some (.ref fWhole)))
    (lWhole : K.lookup fWhole = some ⟨ocWhole, odWhole, .func (PySem.W.fnOf "is_whole" "is_whole" (defArgs sWhole) (defBody sWhole) (defScope sWhole) .none kVWhole dcWhole pmWhole anWhole cdWhole ctWhole), slWhole⟩)
    (cWhole : PySem.W.codeIn K cdWhole "is_whole" = true)
    (kWhole : PySem.W.keepIn K (.ref fWhole) = true)
    (aName : PySem.W.nsIn K mainGlobals "is_name" = some (some (.ref fName)))
    (lName : K.lookup fName = some ⟨ocName, odName, .func (PySem.W.fnOf "is_name" "is_name" (defArgs sName) (defBody sName) (defScope sName) .none kVName dcName pmName anName cdName ctName), slName⟩)
    (cName : PySem.W.codeIn K cdName "is_name" = true)
    (kName : PySem.W.keepIn K (.ref fName) = true)
    (aGrains : PySem.W.nsIn K mainGlobals "is_grains" = some (some (.ref fGrains)))
    (lGrains : K.lookup fGrains = some ⟨ocGrains, odGrains, .func (PySem.W.fnOf "is_grains" "is_grains" (defArgs sGrains) (defBody sGrains) (defScope sGrains) .none kVGrains dcGrains pmGrains anGrains cdGrains ctGrains), slGrains⟩)
    (cGrains : PySem.W.codeIn K cdGrains "is_grains" = true)
    (kGrains : PySem.W.keepIn K (.ref fGrains) = true)
    (aDay : PySem.W.nsIn K mainGlobals "is_day" = some (some (.ref fDay)))
    (lDay : K.lookup fDay = some ⟨ocDay, odDay, .func (PySem.W.fnOf "is_day" "is_day" (defArgs sDay) (defBody sDay) (defScope sDay) .none kVDay dcDay pmDay anDay cdDay ctDay), slDay⟩)
    (cDay : PySem.W.codeIn K cdDay "is_day" = true)
    (kDay : PySem.W.keepIn K (.ref fDay) = true)
    (aDeck : PySem.W.nsIn K mainGlobals "_law_deck" = some (some (.ref fDeck)))
    (lDeck : K.lookup fDeck = some ⟨ocDeck, odDeck, .func (PySem.W.fnOf "_law_deck" "_law_deck" (defArgs sDeck) (defBody sDeck) (defScope sDeck) .none kVDeck dcDeck pmDeck anDeck cdDeck ctDeck), slDeck⟩)
    (cDeck : PySem.W.codeIn K cdDeck "_law_deck" = true)
    (kDeck : PySem.W.keepIn K (.ref fDeck) = true)
    (aDraw : PySem.W.nsIn K mainGlobals "_law_draw" = some (some (.ref fDraw)))
    (lDraw : K.lookup fDraw = some ⟨ocDraw, odDraw, .func (PySem.W.fnOf "_law_draw" "_law_draw" (defArgs sDraw) (defBody sDraw) (defScope sDraw) .none kVDraw dcDraw pmDraw anDraw cdDraw ctDraw), slDraw⟩)
    (cDraw : PySem.W.codeIn K cdDraw "_law_draw" = true)
    (kDraw : PySem.W.keepIn K (.ref fDraw) = true)
    (aLWhole : PySem.W.nsIn K mainGlobals "_law_whole" = some (some (.ref fLWhole)))
    (lLWhole : K.lookup fLWhole = some ⟨ocLWhole, odLWhole, .func (PySem.W.fnOf "_law_whole" "_law_whole" (defArgs sLWhole) (defBody sLWhole) (defScope sLWhole) .none kVLWhole dcLWhole pmLWhole anLWhole cdLWhole ctLWhole), slLWhole⟩)
    (cLWhole : PySem.W.codeIn K cdLWhole "_law_whole" = true)
    (kLWhole : PySem.W.keepIn K (.ref fLWhole) = true)
    (aTold : PySem.W.nsIn K mainGlobals "_law_told" = some (some (.ref fTold)))
    (lTold : K.lookup fTold = some ⟨ocTold, odTold, .func (PySem.W.fnOf "_law_told" "_law_told" (defArgs sTold) (defBody sTold) (defScope sTold) .none kVTold dcTold pmTold anTold cdTold ctTold), slTold⟩)
    (cTold : PySem.W.codeIn K cdTold "_law_told" = true)
    (kTold : PySem.W.keepIn K (.ref fTold) = true)
    (aSign : PySem.W.nsIn K mainGlobals "_law_sign" = some (some (.ref fSign)))
    (lSign : K.lookup fSign = some ⟨ocSign, odSign, .func (PySem.W.fnOf "_law_sign" "_law_sign" (defArgs sSign) (defBody sSign) (defScope sSign) .none kVSign dcSign pmSign anSign cdSign ctSign), slSign⟩)
    (cSign : PySem.W.codeIn K cdSign "_law_sign" = true)
    (kSign : PySem.W.keepIn K (.ref fSign) = true)
    (aOdd : PySem.W.nsIn K mainGlobals "_law_odd" = some (some (.ref fOdd)))
    (lOdd : K.lookup fOdd = some ⟨ocOdd, odOdd, .func (PySem.W.fnOf "_law_odd" "_law_odd" (defArgs sOdd) (defBody sOdd) (defScope sOdd) .none kVOdd dcOdd pmOdd anOdd cdOdd ctOdd), slOdd⟩)
    (cOdd : PySem.W.codeIn K cdOdd "_law_odd" = true)
    (kOdd : PySem.W.keepIn K (.ref fOdd) = true)
    (aLName : PySem.W.nsIn K mainGlobals "_law_name" = some (some (.ref fLName)))
    (lLName : K.lookup fLName = some ⟨ocLName, odLName, .func (PySem.W.fnOf "_law_name" "_law_name" (defArgs sLName) (defBody sLName) (defScope sLName) .none kVLName dcLName pmLName anLName cdLName ctLName), slLName⟩)
    (cLName : PySem.W.codeIn K cdLName "_law_name" = true)
    (kLName : PySem.W.keepIn K (.ref fLName) = true)
    (aBent : PySem.W.nsIn K mainGlobals "_law_text_otherwise" = some (some (.ref fBent)))
    (lBent : K.lookup fBent = some ⟨ocBent, odBent, .func (PySem.W.fnOf "_law_text_otherwise" "_law_text_otherwise" (defArgs sBent) (defBody sBent) (defScope sBent) .none kVBent dcBent pmBent anBent cdBent ctBent), slBent⟩)
    (cBent : PySem.W.codeIn K cdBent "_law_text_otherwise" = true)
    (kBent : PySem.W.keepIn K (.ref fBent) = true)
    (aLIsName : PySem.W.nsIn K mainGlobals "_law_is_name" = some (some (.ref fLIsName)))
    (lLIsName : K.lookup fLIsName = some ⟨ocLIsName, odLIsName, .func (PySem.W.fnOf "_law_is_name" "_law_is_name" (defArgs sLIsName) (defBody sLIsName) (defScope sLIsName) .none kVLIsName dcLIsName pmLIsName anLIsName cdLIsName ctLIsName), slLIsName⟩)
    (cLIsName : PySem.W.codeIn K cdLIsName "_law_is_name" = true)
    (kLIsName : PySem.W.keepIn K (.ref fLIsName) = true)
    (aLIsDay : PySem.W.nsIn K mainGlobals "_law_is_day" = some (some (.ref fLIsDay)))
    (lLIsDay : K.lookup fLIsDay = some ⟨ocLIsDay, odLIsDay, .func (PySem.W.fnOf "_law_is_day" "_law_is_day" (defArgs sLIsDay) (defBody sLIsDay) (defScope sLIsDay) .none kVLIsDay dcLIsDay pmLIsDay anLIsDay cdLIsDay ctLIsDay), slLIsDay⟩)
    (cLIsDay : PySem.W.codeIn K cdLIsDay "_law_is_day" = true)
    (kLIsDay : PySem.W.keepIn K (.ref fLIsDay) = true)
    (aLIsGrains : PySem.W.nsIn K mainGlobals "_law_is_grains" = some (some (.ref fLIsGrains)))
    (lLIsGrains : K.lookup fLIsGrains = some ⟨ocLIsGrains, odLIsGrains, .func (PySem.W.fnOf "_law_is_grains" "_law_is_grains" (defArgs sLIsGrains) (defBody sLIsGrains) (defScope sLIsGrains) .none kVLIsGrains dcLIsGrains pmLIsGrains anLIsGrains cdLIsGrains ctLIsGrains), slLIsGrains⟩)
    (cLIsGrains : PySem.W.codeIn K cdLIsGrains "_law_is_grains" = true)
    (kLIsGrains : PySem.W.keepIn K (.ref fLIsGrains) = true)
    (aThings : PySem.W.nsIn K mainGlobals "_law_things" = some (some (.ref fThings)))
    (lThings : K.lookup fThings = some ⟨ocThings, odThings, .func (PySem.W.fnOf "_law_things" "_law_things" (defArgs sThings) (defBody sThings) (defScope sThings) .none kVThings dcThings pmThings anThings cdThings ctThings), slThings⟩)
    (cThings : PySem.W.codeIn K cdThings "_law_things" = true)
    (kThings : PySem.W.keepIn K (.ref fThings) = true)
    (aLaw : PySem.W.nsIn K mainGlobals "law" = some (some (.ref fLaw)))
    (lLaw : K.lookup fLaw = some ⟨ocLaw, odLaw, .func (PySem.W.fnOf "law" "law" (defArgs sLaw) (defBody sLaw) (defScope sLaw) .none kVLaw dcLaw pmLaw anLaw cdLaw ctLaw), slLaw⟩)
    (cLaw : PySem.W.codeIn K cdLaw "law" = true)
    (kLaw : PySem.W.keepIn K (.ref fLaw) = true)
    (gBLK : PySem.W.nsIn K mainGlobals "BLOCK" = some (some (.int zBLK tBLK)))
    (big : (2 : Int) ^ 1600 ≤ zBLK)
    (ggcd : PySem.W.nsIn K mainGlobals "gcd" = some (some (.builtin "math.gcd")))
    (gML : PySem.W.nsIn K mainGlobals "MOST_LETTERS" = some (some (.int zML tML)))
    (eML : zML = 8)
    (gLT : PySem.W.nsIn K mainGlobals "LETTERS" = some (some (.str zLT tLT)))
    (eLT : zLT = LETS)
    (gLD : PySem.W.nsIn K mainGlobals "LAST_DAY" = some (some (.int zLD tLD)))
    (eLD : zLD = 1200)
    (z_isinstance : PySem.W.nsIn K mainGlobals "isinstance" = some none)
    (z_int : PySem.W.nsIn K mainGlobals "int" = some none)
    (z_bool : PySem.W.nsIn K mainGlobals "bool" = some none)
    (z_range : PySem.W.nsIn K mainGlobals "range" = some none)
    (z_str : PySem.W.nsIn K mainGlobals "str" = some none)
    (z_reversed : PySem.W.nsIn K mainGlobals "reversed" = some none)
    (z_repr : PySem.W.nsIn K mainGlobals "repr" = some none)
    (z_len : PySem.W.nsIn K mainGlobals "len" = some none)
    (z_all : PySem.W.nsIn K mainGlobals "all" = some none)
    (wi : PySem.W.kitOne K (.ref C) (.type "int") = some false)
    (wb : PySem.W.kitOne K (.ref C) (.type "bool") = some false)
    (ws : PySem.W.kitOne K (.ref C) (.type "str") = some false) :
    ∃ fd : FuncData, (∀ (s : Shared) (v : Value), BindsTo s fd ⟨[v], []⟩ [("_law_script", v)]) ∧ ∀ base : Heap, K.In base → base.Ns mainGlobals mg → FnG l.prog w K mg base CX0 22 fa fd ["_law_script"] (spLaw K) := by
  have e := hfa.symm.trans (PySem.W.mg_of X G aLaw)
  cases e
  have CLC : Cls K C := ⟨pgC, hdC, poC, saC⟩
  have NC : WIns K C := ⟨waC, wn, wt, wmC⟩
  have FInit : FunD K "__init__" "Weight.__init__" (defArgs sInit) (defBody sInit) (defScope sInit) [.int 1] [] fInit _ := ⟨⟨_, _, _, _, _, _, _, _, _, _, rfl, lInit, cInit, .inr ⟨by simp, DInit, _, [Value.int 1 tkDInit], _, rfl, lDInit, rfl, .cons (⟨_, rfl⟩) .nil⟩, .inl rfl⟩, kInit⟩
  have mInit : Meth K C "__init__" fInit := ⟨aInit, iInit, kInit⟩
  have FRepr := fun_mk (st := sRepr) lRepr cRepr kRepr
  have bRepr := FRepr.binds (ps := ["self"]) fun _ _ _ _ _ _ us hl => match us, hl with | [_], _ => rfl
  have FMade := fun_mk (st := sMade) lMade cMade kMade
  have qMade : Cl K mg "made_of" fMade _ ["text", "signs"] := ⟨PySem.W.mg_of X G aMade, kMade, FMade.binds (ps := ["text", "signs"]) fun _ _ _ _ _ _ us hl => match us, hl with | [_, _], _ => rfl⟩
  have FShow := fun_mk (st := sShow) lShow cShow kShow
  have qShow : Cl K mg "show_whole" fShow _ ["number"] := ⟨PySem.W.mg_of X G aShow, kShow, FShow.binds (ps := ["number"]) fun _ _ _ _ _ _ us hl => match us, hl with | [_], _ => rfl⟩
  have FWhole := fun_mk (st := sWhole) lWhole cWhole kWhole
  have qWhole : Cl K mg "is_whole" fWhole _ ["thing"] := ⟨PySem.W.mg_of X G aWhole, kWhole, FWhole.binds (ps := ["thing"]) fun _ _ _ _ _ _ us hl => match us, hl with | [_], _ => rfl⟩
  have FName := fun_mk (st := sName) lName cName kName
  have qName : Cl K mg "is_name" fName _ ["thing"] := ⟨PySem.W.mg_of X G aName, kName, FName.binds (ps := ["thing"]) fun _ _ _ _ _ _ us hl => match us, hl with | [_], _ => rfl⟩
  have FGrains := fun_mk (st := sGrains) lGrains cGrains kGrains
  have qGrains : Cl K mg "is_grains" fGrains _ ["thing"] := ⟨PySem.W.mg_of X G aGrains, kGrains, FGrains.binds (ps := ["thing"]) fun _ _ _ _ _ _ us hl => match us, hl with | [_], _ => rfl⟩
  have FDay := fun_mk (st := sDay) lDay cDay kDay
  have qDay : Cl K mg "is_day" fDay _ ["thing"] := ⟨PySem.W.mg_of X G aDay, kDay, FDay.binds (ps := ["thing"]) fun _ _ _ _ _ _ us hl => match us, hl with | [_], _ => rfl⟩
  have FDeck := fun_mk (st := sDeck) lDeck cDeck kDeck
  have qDeck : Cl K mg "_law_deck" fDeck _ ["_law_cell"] := ⟨PySem.W.mg_of X G aDeck, kDeck, FDeck.binds (ps := ["_law_cell"]) fun _ _ _ _ _ _ us hl => match us, hl with | [_], _ => rfl⟩
  have FDraw := fun_mk (st := sDraw) lDraw cDraw kDraw
  have qDraw : Cl K mg "_law_draw" fDraw _ ["_law_deck_here", "_law_most"] := ⟨PySem.W.mg_of X G aDraw, kDraw, FDraw.binds (ps := ["_law_deck_here", "_law_most"]) fun _ _ _ _ _ _ us hl => match us, hl with | [_, _], _ => rfl⟩
  have FLWhole := fun_mk (st := sLWhole) lLWhole cLWhole kLWhole
  have qLWhole : Cl K mg "_law_whole" fLWhole _ ["_law_thing"] := ⟨PySem.W.mg_of X G aLWhole, kLWhole, FLWhole.binds (ps := ["_law_thing"]) fun _ _ _ _ _ _ us hl => match us, hl with | [_], _ => rfl⟩
  have FTold := fun_mk (st := sTold) lTold cTold kTold
  have qTold : Cl K mg "_law_told" fTold _ ["_law_query", "_law_thing", "_law_due"] := ⟨PySem.W.mg_of X G aTold, kTold, FTold.binds (ps := ["_law_query", "_law_thing", "_law_due"]) fun _ _ _ _ _ _ us hl => match us, hl with | [_, _, _], _ => rfl⟩
  have FSign := fun_mk (st := sSign) lSign cSign kSign
  have qSign : Cl K mg "_law_sign" fSign _ ["_law_deck_here"] := ⟨PySem.W.mg_of X G aSign, kSign, FSign.binds (ps := ["_law_deck_here"]) fun _ _ _ _ _ _ us hl => match us, hl with | [_], _ => rfl⟩
  have FOdd := fun_mk (st := sOdd) lOdd cOdd kOdd
  have qOdd : Cl K mg "_law_odd" fOdd _ ["_law_deck_here"] := ⟨PySem.W.mg_of X G aOdd, kOdd, FOdd.binds (ps := ["_law_deck_here"]) fun _ _ _ _ _ _ us hl => match us, hl with | [_], _ => rfl⟩
  have FLName := fun_mk (st := sLName) lLName cLName kLName
  have qLName : Cl K mg "_law_name" fLName _ ["_law_deck_here"] := ⟨PySem.W.mg_of X G aLName, kLName, FLName.binds (ps := ["_law_deck_here"]) fun _ _ _ _ _ _ us hl => match us, hl with | [_], _ => rfl⟩
  have FBent := fun_mk (st := sBent) lBent cBent kBent
  have qBent : Cl K mg "_law_text_otherwise" fBent _ ["_law_deck_here", "_law_text"] := ⟨PySem.W.mg_of X G aBent, kBent, FBent.binds (ps := ["_law_deck_here", "_law_text"]) fun _ _ _ _ _ _ us hl => match us, hl with | [_, _], _ => rfl⟩
  have FLIsName := fun_mk (st := sLIsName) lLIsName cLIsName kLIsName
  have qLIsName : Cl K mg "_law_is_name" fLIsName _ ["_law_thing"] := ⟨PySem.W.mg_of X G aLIsName, kLIsName, FLIsName.binds (ps := ["_law_thing"]) fun _ _ _ _ _ _ us hl => match us, hl with | [_], _ => rfl⟩
  have FLIsDay := fun_mk (st := sLIsDay) lLIsDay cLIsDay kLIsDay
  have qLIsDay : Cl K mg "_law_is_day" fLIsDay _ ["_law_thing"] := ⟨PySem.W.mg_of X G aLIsDay, kLIsDay, FLIsDay.binds (ps := ["_law_thing"]) fun _ _ _ _ _ _ us hl => match us, hl with | [_], _ => rfl⟩
  have FLIsGrains := fun_mk (st := sLIsGrains) lLIsGrains cLIsGrains kLIsGrains
  have qLIsGrains : Cl K mg "_law_is_grains" fLIsGrains _ ["_law_thing"] := ⟨PySem.W.mg_of X G aLIsGrains, kLIsGrains, FLIsGrains.binds (ps := ["_law_thing"]) fun _ _ _ _ _ _ us hl => match us, hl with | [_], _ => rfl⟩
  have FThings := fun_mk (st := sThings) lThings cThings kThings
  have qThings : Cl K mg "_law_things" fThings _ ["_law_deck_here"] := ⟨PySem.W.mg_of X G aThings, kThings, FThings.binds (ps := ["_law_deck_here"]) fun _ _ _ _ _ _ us hl => match us, hl with | [_], _ => rfl⟩
  have FLaw := fun_mk (st := sLaw) lLaw cLaw kLaw
  refine ⟨PySem.W.fnOf "law" "law" (defArgs sLaw) (defBody sLaw) (defScope sLaw) .none kVLaw dcLaw pmLaw anLaw cdLaw ctLaw, fun s v => .of_eq rfl, fun base _ _ => ?_⟩
  have T : WTxt K mg C fWhole := ⟨CLC, nC_top, nC_bottom, PySem.W.mg_of X G aC, PySem.W.mg_of X G aWhole, kWhole, PySem.W.mg_of X G ggcd⟩
  have B : Blt mg := ⟨(PySem.W.mg_none_of X G z_isinstance), (PySem.W.mg_none_of X G z_int), (PySem.W.mg_none_of X G z_bool)⟩
  have M : Mk K C fInit := ⟨mkC, aInit, iInit, kcC⟩
  have bI : Binds K _ ["self", "top", "bottom"] [] := bindsI FInit
  obtain ⟨ds, vd, bI1⟩ := bindsI1 FInit
  have GWv := ok_wholeV (P := l.prog) (w := w) (base := base) FWhole B
  have GLWv := ok_lwholeV (P := l.prog) (w := w) (base := base) FLWhole B
  have GI := ok_init FInit T (_root_.K.FnOk.ints GWv) qWhole.b
  have GSh := ok_show (P := l.prog) (w := w) (mg := mg) (base := base) FShow (PySem.W.mg_none_of X G z_str) (PySem.W.mg_none_of X G z_reversed) (PySem.W.mg_of X G gBLK) big
  have GR := ok_repr FRepr T qShow GSh
  have GDk := ok_deck (P := l.prog) (w := w) (mg := mg) (base := base) FDeck B
  have GDr := ok_draw (P := l.prog) (w := w) (mg := mg) (base := base) FDraw
  have GOd := ok_odd FOdd T (PySem.W.mg_none_of X G z_range) (PySem.W.mg_none_of X G z_len) M GI bI vd bI1 qDraw GDr
  have GMa := ok_made (P := l.prog) (w := w) (base := base) FMade (PySem.W.mg_none_of X G z_all)
  have GNm := ok_name FName B (PySem.W.mg_none_of X G z_str) (PySem.W.mg_none_of X G z_len) (PySem.W.mg_of X G gML) eML (PySem.W.mg_of X G gLT) eLT qMade GMa
  have GGr := ok_grains FGrains qWhole GWv
  have GDy := ok_day FDay (PySem.W.mg_of X G gLD) eLD qWhole GWv
  have HNm := ok_lisname (P := l.prog) (w := w) (base := base) FLIsName B (PySem.W.mg_none_of X G z_str) (PySem.W.mg_none_of X G z_len)
  have HGr := ok_lisgrains FLIsGrains qLWhole GLWv
  have HDy := ok_lisday FLIsDay qLWhole GLWv
  have GSi := ok_sign FSign (PySem.W.mg_none_of X G z_len) qDraw GDr
  have GLN := ok_lname FLName (PySem.W.mg_none_of X G z_range) qDraw GDr
  have GBe := ok_bent FBent B (PySem.W.mg_none_of X G z_len) qDraw GDr qSign GSi
  have GTh := ok_things (P := l.prog) (w := w) (base := base) FThings (PySem.W.mg_none_of X G z_range) qDraw GDr qOdd GOd qLName GLN qBent GBe
  have AQ := held_q GNm GGr GDy kName kGrains kDay qName.b qGrains.b qDay.b
  have AL := held_q HNm HGr HDy kLIsName kLIsGrains kLIsDay qLIsName.b qLIsGrains.b qLIsDay.b
  have GTo := ok_told FTold T B NC wi wb ws aRepr iRepr bRepr GR (PySem.W.mg_none_of X G z_repr) (PySem.W.mg_none_of X G z_range) AQ
  exact ok_law FLaw T NC wi wb ws qName.g qGrains.g qDay.g qLIsName.g qLIsGrains.g qLIsDay.g AL qDeck GDk qThings GTh qTold GTo
theorem walk {l : PySem.W.OpenLaw} {q : Program} {loose : List Str} {XP : (Str → Option Value) → Heap → Prop} {YP : World → Heap → Prop} {d : DefRec} {K : Params → PySem.W.Frag} (hn : l.most = some 63) (hdf : d.params.defaults = [])
    (hY : ∀ (w : World) (h : Heap), YP w h → (K w.params).In h)
    (F : ∀ (w : World) (mg : Str → Option Value) (fa : Addr) (h : Heap), (K w.params).In h → h.Ns mainGlobals mg → mg d.name = some (.ref fa) →
      ∃ fd : FuncData, (∀ (s : Shared) (u : Value), BindsTo s fd ⟨[u], []⟩ [("_law_script", u)]) ∧ ∀ base : Heap, (K w.params).In base → base.Ns mainGlobals mg → FnG l.prog w (K w.params) mg base CX0 22 fa fd ["_law_script"] (spLaw (K w.params))) :
    PySem.W.WalkO q loose XP YP l.row.toRowW d [] (fun f vs => PySem.call f vs) :=
  walk_ofG (n := 63) (k := 22) (x := "_law_script") (CX := fun _ => CX0) (sp := fun w => spLaw (K w.params)) hn (by decide) hdf ⟨rfl, by decide, by decide⟩ hY F (fun _ _ a ns hl _ hS => ⟨a, ns, rfl, hS, hl, fun _ => rfl⟩) fun _ _ _ _ _ z => z
end K
open PySem PySem.W PyProof.Rows
set_option maxRecDepth 100000 in
set_option maxHeartbeats 0 in
theorem PySem.Challenge.cw_casknotes_k01_names_grains_days_holds : PySem.Challenge.rw_casknotes_k01_names_grains_days.Holds := by
  w_on; o_law; k_head; (case hw => w_witness2)
  k_fill
  refine K.walk (l := PySem.Challenge.rw_casknotes_k01_names_grains_days) rfl rfl (fun w h Y => PySem.W.kIn_of Y) ?F
  case F =>
    intro w mg fa h KX G hmg
    refine' K.all_mk KX G hmg ?aC ?pgC ?hdC ?poC ?saC ?mkC ?kcC ?nC_top ?nC_bottom ?waC ?wmC ?wneC ?wn ?wt ?aInit ?iInit ?lInit ?cInit ?kInit ?lDInit ?aRepr ?iRepr ?lRepr ?cRepr ?kRepr ?aMade ?lMade ?cMade ?kMade ?aShow ?lShow ?cShow ?kShow ?aWhole ?lWhole ?cWhole ?kWhole ?aName ?lName ?cName ?kName ?aGrains ?lGrains ?cGrains ?kGrains ?aDay ?lDay ?cDay ?kDay ?aDeck ?lDeck ?cDeck ?kDeck ?aDraw ?lDraw ?cDraw ?kDraw ?aLWhole ?lLWhole ?cLWhole ?kLWhole ?aTold ?lTold ?cTold ?kTold ?aSign ?lSign ?cSign ?kSign ?aOdd ?lOdd ?cOdd ?kOdd ?aLName ?lLName ?cLName ?kLName ?aBent ?lBent ?cBent ?kBent ?aLIsName ?lLIsName ?cLIsName ?kLIsName ?aLIsDay ?lLIsDay ?cLIsDay ?kLIsDay ?aLIsGrains ?lLIsGrains ?cLIsGrains ?kLIsGrains ?aThings ?lThings ?cThings ?kThings ?aLaw ?lLaw ?cLaw ?kLaw ?gBLK ?big ?ggcd ?gML ?eML ?gLT ?eLT ?gLD ?eLD ?z_isinstance ?z_int ?z_bool ?z_range ?z_str ?z_reversed ?z_repr ?z_len ?z_all ?wi ?wb ?ws
    (case aC => k_is)
    (case pgC => k_is)
    (case hdC => k_is)
    (case poC => k_is)
    (case saC => k_is)
    (case mkC => k_is)
    (case kcC => k_is)
    (case nC_top => k_is)
    (case nC_bottom => k_is)
    (case waC => k_is)
    (case wmC => k_is)
    (case wneC => k_is)
    (case wn => k_is)
    (case wt => k_is)
    (case aInit => k_is)
    (case iInit => k_is)
    (case lInit => k_is)
    (case cInit => k_is)
    (case kInit => k_is)
    (case lDInit => k_is)
    (case aRepr => k_is)
    (case iRepr => k_is)
    (case lRepr => k_is)
    (case cRepr => k_is)
    (case kRepr => k_is)
    (case aMade => k_is)
    (case lMade => k_is)
    (case cMade => k_is)
    (case kMade => k_is)
    (case aShow => k_is)
    (case lShow => k_is)
    (case cShow => k_is)
    (case kShow => k_is)
    (case aWhole => k_is)
    (case lWhole => k_is)
    (case cWhole => k_is)
    (case kWhole => k_is)
    (case aName => k_is)
    (case lName => k_is)
    (case cName => k_is)
    (case kName => k_is)
    (case aGrains => k_is)
    (case lGrains => k_is)
    (case cGrains => k_is)
    (case kGrains => k_is)
    (case aDay => k_is)
    (case lDay => k_is)
    (case cDay => k_is)
    (case kDay => k_is)
    (case aDeck => k_is)
    (case lDeck => k_is)
    (case cDeck => k_is)
    (case kDeck => k_is)
    (case aDraw => k_is)
    (case lDraw => k_is)
    (case cDraw => k_is)
    (case kDraw => k_is)
    (case aLWhole => k_is)
    (case lLWhole => k_is)
    (case cLWhole => k_is)
    (case kLWhole => k_is)
    (case aTold => k_is)
    (case lTold => k_is)
    (case cTold => k_is)
    (case kTold => k_is)
    (case aSign => k_is)
    (case lSign => k_is)
    (case cSign => k_is)
    (case kSign => k_is)
    (case aOdd => k_is)
    (case lOdd => k_is)
    (case cOdd => k_is)
    (case kOdd => k_is)
    (case aLName => k_is)
    (case lLName => k_is)
    (case cLName => k_is)
    (case kLName => k_is)
    (case aBent => k_is)
    (case lBent => k_is)
    (case cBent => k_is)
    (case kBent => k_is)
    (case aLIsName => k_is)
    (case lLIsName => k_is)
    (case cLIsName => k_is)
    (case kLIsName => k_is)
    (case aLIsDay => k_is)
    (case lLIsDay => k_is)
    (case cLIsDay => k_is)
    (case kLIsDay => k_is)
    (case aLIsGrains => k_is)
    (case lLIsGrains => k_is)
    (case cLIsGrains => k_is)
    (case kLIsGrains => k_is)
    (case aThings => k_is)
    (case lThings => k_is)
    (case cThings => k_is)
    (case kThings => k_is)
    (case aLaw => k_is)
    (case lLaw => k_is)
    (case cLaw => k_is)
    (case kLaw => k_is)
    (case gBLK => k_is)
    (case big => decide +kernel)
    (case ggcd => k_is)
    (case gML => k_is)
    (case eML => decide +kernel)
    (case gLT => k_is)
    (case eLT => decide +kernel)
    (case gLD => k_is)
    (case eLD => decide +kernel)
    (case z_isinstance => k_is)
    (case z_int => k_is)
    (case z_bool => k_is)
    (case z_range => k_is)
    (case z_str => k_is)
    (case z_reversed => k_is)
    (case z_repr => k_is)
    (case z_len => k_is)
    (case z_all => k_is)
    (case wi => kit_is)
    (case wb => kit_is)
    (case ws => kit_is)
