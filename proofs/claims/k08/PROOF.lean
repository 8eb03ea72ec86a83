import PyProof.Rows.All
import Wide.All
import OpenK.AllK
import Wide.FinOn
import HandS.ForMost
import HandS.Rev
import PyProof.JoinWalk
import HandS.Exc
import HandS.ExcOwn
import HandS.ExcIs
import HandS.ExcField
import HandS.ExcInit
import HandS.HotCalls
import HandS.WordsExc
import HandS.IsInst
import HandS.List
import KE.KExcIs
import PyProof.Rows.CountFlat
import PyProof.ReprDict
import HandS.OwnEq
import PyProof.InstEq
import KE.KCallOwn
import HandS.Text
import HandS.Codes
import HandS.Iter
import HandS.Comp
import HandS.Style
import KE.KRevSl
import HandS.Gcd
import HandS.Wide
import HandS.FStr
import HandS.StrMore
import HandS.NoneIn
import HandS.Defaults
import HandS.Spec
import HandS.Walk
import HandS.TupLe
import HandS.CallLocal
import PyProof.StrLawsRepr
import HandS.More
import HandS.TryOnly
import PySem.Challenge.RW_casknotes_k08_texts_of_no_weight
set_option Elab.async false
set_option linter.all false
set_option maxRecDepth 100000
set_option maxHeartbeats 4000000
/-! repr of things, by the abstract heap: what is told of a value, beneath a running body whose guards are known -/
namespace Rp
open PySem PySem.Spec PyProof.Rows L2

/-- beneath X: room for n calls, X's frames, the guards that run -/
structure Low (X : Cx) (n : Nat) (g : List Code) (A : Around) : Prop where
  rm : Room n A
  fr : A.frames = X.A.frames
  gd : A.guards = some g
section
variable {X : Cx} {n m : Nat} {g : List Code} {A : Around} {a : Addr}
theorem Low.in1 (s : Low X (n + 1) g A) : Low X n g A.in1 := ⟨s.rm.in1, s.fr, s.gd⟩
theorem Low.mono (s : Low X n g A) (h : m ≤ n) : Low X m g A := ⟨s.rm.mono h, s.fr, s.gd⟩
theorem Low.guard {id : String} {v : Value} {us : List Value} (s : Low X (n + 1) g A)
    (hg : (Code.builtin id ⟨v :: us, []⟩).guards = [Code.builtin id ⟨v :: us, []⟩]) (hw : (Code.builtin id ⟨v :: us, []⟩).weight = 1) (hu : (Code.builtin id ⟨v :: us, []⟩).cUnits = 1)
    (he : (Code.builtin id ⟨v :: us, []⟩).envs = []) :
    Low X n (Code.builtin id ⟨v :: us, []⟩ :: g) (A.under (Code.builtin id ⟨v :: us, []⟩)) := by
  obtain ⟨⟨r1, r2, r3⟩, f, gd⟩ := s
  refine ⟨⟨r1, ?_, ?_⟩, ?_, ?_⟩
  · show A.depth + (Code.builtin id ⟨v :: us, []⟩).weight + 3 * n + 5 < _
    rw [hw]; omega
  · show A.units + (Code.builtin id ⟨v :: us, []⟩).cUnits + 16 * n + 200 < _
    rw [hu]; omega
  · show pushEnvs (Code.builtin id ⟨v :: us, []⟩).envs A.frames = _
    rw [he]; exact f
  · show pushGuards (Code.builtin id ⟨v :: us, []⟩).guards A.guards = _
    rw [hg, gd]; rfl
end

/-- what repr tells of v, at any heap grown from H -/
structure Says (X : Cx) (n : Nat) (as : List Addr) (H : Hp) (v : V) (t : Str) : Prop where
  und : ∀ (A : Around) (g : List Code) (base : Nat) (pins : List (Addr × Obj)) (s : Shared) (σ : L2.St) (H1 : Hp) (u : Value), Low X n g A → (∀ b ∈ as, Clear g b) → Inv X pins σ H1 s → Same H H1 → RelV v u → base + t.length ≤ sizeLine →
    wpAny (model X.prog X.w) A (pyReprUnder base u) (fun r s' => r = t ∧ ∃ H2, Inv X pins σ H2 s' ∧ Same H1 H2) X.xe s
  top : ∀ (A : Around) (g : List Code) (pins : List (Addr × Obj)) (s : Shared) (σ : L2.St) (H1 : Hp) (u : Value), Low X n g A → (∀ b ∈ as, Clear g b) → Inv X pins σ H1 s → Same H H1 → RelV v u → t.length ≤ sizeLine →
    wpAny (model X.prog X.w) A (call (.builtin "repr") [u]) (fun r s' => (∃ tk, r = .str t tk) ∧ ∃ H2, Inv X pins σ H2 s' ∧ Same H1 H2) X.xe s

section
variable {X : Cx} {n m : Nat} {as as' : List Addr} {H H' : Hp} {v : V} {t : Str} {a : Addr}
theorem Says.grow (h : Says X n as H v t) (e : Same H H') : Says X n as H' v t :=
  ⟨fun A g base pins s σ H1 u lo cl I x => h.und A g base pins s σ H1 u lo cl I (e.trans x), fun A g pins s σ H1 u lo cl I x => h.top A g pins s σ H1 u lo cl I (e.trans x)⟩
theorem Says.mono (h : Says X n as H v t) (hn : n ≤ m) (hs : ∀ b ∈ as, b ∈ as') : Says X m as' H v t :=
  ⟨fun A g base pins s σ H1 u lo cl => h.und A g base pins s σ H1 u (lo.mono hn) fun b hb => cl b (hs b hb), fun A g pins s σ H1 u lo cl => h.top A g pins s σ H1 u (lo.mono hn) fun b hb => cl b (hs b hb)⟩
theorem says_leaf (hi : ∀ u, RelV v u → ReprIs X.prog X.w u t) (ht : ∀ (A : Around) (E : Value → Shared → Prop) (s : Shared) (u : Value) (Q : Value → Shared → Prop), RelV v u → t.length ≤ sizeLine → Q (.str t s.toks) { s with toks := s.toks + 1 } → wpAny (model X.prog X.w) A (call (.builtin "repr") [u]) Q E s) :
    Says X 0 [] H v t :=
  ⟨fun A g base pins s σ H1 u _ _ I _ r hz => hi u r base hz A X.xe s _ fun tk => ⟨rfl, H1, I.tok tk, Same.refl H1⟩,
   fun A g pins s σ H1 u _ _ I _ r hz => ht A X.xe s u _ r hz ⟨⟨_, rfl⟩, H1, I.tok _, Same.refl H1⟩⟩
theorem says_bl (b : Bool) : Says X 0 [] H (.bl b) (if b then "True" else "False" : String) := by
  refine says_leaf (fun u r => ?_) fun A E s u Q r _ q => ?_
  · cases r
    have h := ReprIs.bool (prog := X.prog) (w := X.w) b
    cases b <;> exact h
  · cases r
    refine PySem.P.repr_of_bool ?_
    cases b <;> exact q
theorem says_non : Says X 0 [] H .non ("None" : String) := by
  refine says_leaf (fun u r => ?_) fun A E s u Q r _ q => ?_
  · cases r; exact ReprIs.none
  · cases r; exact PySem.P.repr_of_none q
theorem says_int {i : Int} (hi : i.natAbs.log2 < 1920) : Says X 0 [] H (.int i) (toString i) := by
  refine says_leaf (fun u r => ?_) fun A E s u Q r _ q => ?_
  · obtain ⟨tk, rfl⟩ := r; exact ReprIs.int tk hi
  · obtain ⟨tk, rfl⟩ := r; exact PySem.P.repr_of_int hi q
theorem says_str {x : Str} (hx : (reprText x).length ≤ sizeLine) : Says X 0 [] H (.str x) (reprText x) := by
  refine says_leaf (fun u r => ?_) fun A E s u Q r hz q => ?_
  · obtain ⟨tk, rfl⟩ := r; exact ReprIs.str x tk hx
  · obtain ⟨tk, rfl⟩ := r; exact PySem.P.repr_of_str q hz
end

/-! ### lists -/
section
variable {X : Cx} {n : Nat} {as : List Addr} {H : Hp} {a P : Addr} {xs : List V} {ts : List Str} {base : Nat} {g : List Code} {A : Around} {pins : List (Addr × Obj)} {σ : L2.St}
abbrev loopC (a P : Addr) (i k : Nat) : Code := .builtin "list.__repr__.loop" ⟨[.ref a, rawInt i, .ref P, rawInt (k : Int)], []⟩
theorem low_loop (lo : Low X (n + 1) g A) (i k : Nat) : Low X n (loopC a P i k :: g) (A.under (loopC a P i k)) :=
  lo.guard (by show (if Code.isGuard _ then _ else _) = _; rw [isGuard_list_loop]; rfl)
    (by simp only [Code.weight, isGuard_list_loop]; rfl)
    (by rfl) (by first | rfl | simp [Code.envs, Code.isFrame])
theorem lst_turns (lo : Low X (n + 1) g A) (hcl : ∀ b ∈ as, Clear g b) (hna : a ∉ as) (hit : ∀ (i : Nat) (x : V), xs[i]? = some x → ∃ t, ts[i]? = some t ∧ Says X n as H x t) (hl : ts.length = xs.length)
    (hsz : base + (listText ts).length ≤ sizeLine) (hq : SqL X.K H a xs) (haP : a ≠ P) {R : Result → Shared → Prop}
    (fin : ∀ s H2 u, Inv X pins σ H2 s → Same H H2 → R (.ok (.ret (.str (listText ts) u))) s) (bad : ∀ e s, X.xe e s → R (.error e) s) :
    ∀ (k i : Nat) (s : Shared) (H1 : Hp) (acc : Array Value) (c : Nat) (done : List (Str × Tok)), xs.length - i = k → i ≤ xs.length → Inv X pins σ H1 s → Same H H1 → FpOk X pins H1 P →
      s.heap.get? P = some { cls := .type "list", dict := none, data := .seq acc c, slots := #[] } → acc.toList = strValues done → done.map (·.1) = ts.take i →
      codeAny (model X.prog X.w) A (loopC a P i (base + piled (ts.take i))) R s := by
  have hL := textFrom_len ts 0 "["
  have hX : (listText ts).length = (textFrom 0 "[" ts).length + 1 := by
    unfold listText
    rw [strLen_append]; rfl
  have hsz0 : (listText ts).length ≤ sizeLine := by omega
  have small : ∀ t ∈ ts, t.length ≤ sizeLine := fun t ht => by
    have h2 := hL.2.1 t ht
    omega
  have hp3 := piled_le_listText ts
  have hn1 : xs.length ≤ sizeLine := by
    have h1 := hL.1
    rw [if_neg (Nat.lt_irrefl 0)] at h1
    omega
  intro k
  induction k with
  | zero =>
    intro i s H1 acc c done hk hi I hs fp hP hacc hdone
    have hin : i = xs.length := by omega
    obtain ⟨its, rv, pl, _⟩ := I.list (hs.seq hq)
    obtain ⟨oa, na, ho, _, _, hd⟩ := pl
    refine codeAny_builtin PySem.F.entry_list_repr_loop ?_
    show wpAny _ _ (Builtin.«list.__repr__.loop» ⟨[.ref a, .int i 0, .ref P, .int ((base + piled (ts.take i) : Nat) : Int) 0], []⟩) _ _ s
    rw [repr_loop_tree]
    refine wpAny_bind (wpAny_listItems ho hd ?_)
    have none_ : its.toArray[((i : Int)).toNat]? = none := by
      have := rv.length
      simp; omega
    simp only [none_]
    unfold reprEnd
    refine wpAny_bind (wpAny_listItems hP rfl ?_)
    rw [hacc, repr_fold]
    have hall : done.map (·.1) = ts := by rw [hdone, hin, ← hl, List.take_length]
    refine wpAny_bind (wpAny_pure ?_)
    rw [hall]
    exact wpAny_bind (wpAny_mkStr (wpAny_pure (fin _ H1 _ (I.tok _) hs)) hsz0)
  | succ k ih =>
    intro i s H1 acc c done hk hi I hs fp hP hacc hdone
    have hlt : i < xs.length := by omega
    obtain ⟨its, rv, pl, _⟩ := I.list (hs.seq hq)
    obtain ⟨oa, na, ho, _, _, hd⟩ := pl
    have hlt2 : i < its.length := by rw [← rv.length]; exact hlt
    obtain ⟨t, ht, hsay⟩ := hit i xs[i] (List.getElem?_eq_getElem hlt)
    obtain ⟨u, hu, ru⟩ := rv.get (List.getElem?_eq_getElem hlt)
    have hp1 := piled_take_succ ht
    have hp2 := piled_take_le ts (i + 1)
    refine codeAny_builtin PySem.F.entry_list_repr_loop ?_
    show wpAny _ _ (Builtin.«list.__repr__.loop» ⟨[.ref a, .int i 0, .ref P, .int ((base + piled (ts.take i) : Nat) : Int) 0], []⟩) _ _ s
    rw [repr_loop_tree]
    refine wpAny_bind (wpAny_listItems ho hd ?_)
    have some_ : its.toArray[i]? = some u := by simpa using hu
    simp only [Int.toNat_natCast, some_]
    obtain ⟨f0, f1, f2, f3, f4, f5⟩ := id fp
    have Ip : Inv X ((P, { cls := .type "list", dict := none, data := .seq acc c, slots := #[] }) :: pins) σ H1 s := I.pins_of fun p hp => by
      rcases List.mem_cons.mp hp with e | hp
      · rw [e]
        exact ⟨hP, f0, f1, f2, fun v z => by cases z⟩
      · exact I.pin p (List.mem_append_right _ hp)
    refine wpAny_bind (wpAny_holding (wpAny_mono (hsay.und (A.under (loopC a P i (base + piled (ts.take i)))) (loopC a P i (base + piled (ts.take i)) :: g) (base + piled (ts.take i) + 1) _ s σ H1 u (low_loop lo i _)
      (fun b hb => (hcl b hb).cons (a := a) fun e => hna (e ▸ hb)) Ip hs ru (by omega)) (fun r s2 hr => ?_) fun e s2 he => bad e s2 he))
    obtain ⟨er, H2, I2, e2⟩ := hr
    subst er
    obtain ⟨hP2, n2, _⟩ := I2.pin _ (List.mem_append_right _ List.mem_cons_self)
    have I3 : Inv X pins σ H2 s2 := I2.pins_of fun p hp => I2.pin p (List.mem_append_right _ (List.mem_cons_of_mem _ hp))
    refine wpAny_bind (wpAny_mkStr ?_ (small r (List.mem_of_getElem? ht)))
    refine wpAny_bind ?_
    show wpAny _ _ (updateSeq P _) _ _ _
    have hasz : acc.size ≤ sizeLine := by
      have e1 : acc.toList.length = acc.size := by simp
      have e3 : done.length = (ts.take i).length := by rw [← hdone, List.length_map]
      have e4 : (ts.take i).length ≤ i := by rw [List.length_take]; omega
      have e5 : (strValues done).length = done.length := by simp [strValues]
      rw [hacc] at e1; omega
    refine wpAny_updateSeq hP2 rfl (wpAny_pure ⟨PySem.F.quiet_list_repr_loop _, ?_⟩) hasz
    have e1 : ((i : Int) + 1) = ((i + 1 : Nat) : Int) := by omega
    have e3 : base + piled (ts.take i) + (r.length + 2) = base + piled (ts.take (i + 1)) := by omega
    rw [e1, e3]
    have fp2 : FpOk X pins H2 P := ⟨n2, f1, f2, f3, f4, f5⟩
    refine ih (i + 1) _ H2 (acc.push (.str r s2.toks)) _ (done ++ [(r, s2.toks)]) (by omega) hlt ((I3.tok (s2.toks + 1)).turned (t' := s2.toks + 1) (it := P) (fun b o hb e => ?_) n2 f1 f3 f4 f5) (hs.trans e2) fp2 (Heap.get?_update_self _ hP2 rfl) ?_ ?_
    · exact (Heap.get?_update_other _ _ (fun z : P = b => hb z.symm)).trans e
    · simp [hacc, strValues]
    · rw [List.map_append, hdone, List.take_add_one, ht]
      rfl

/-- the body of list.__repr__, of any base -/
theorem lst_body (lo : Low X (n + 1) g A) (hcl : ∀ b ∈ a :: as, Clear g b) (hna : a ∉ as) (hit : ∀ (i : Nat) (x : V), xs[i]? = some x → ∃ t, ts[i]? = some t ∧ Says X n as H x t) (hl : ts.length = xs.length)
    (hsz : base + (listText ts).length ≤ sizeLine) (hq : SqL X.K H a xs) {s : Shared} {H1 : Hp} (I : Inv X pins σ H1 s) (hs : Same H H1) {R : Result → Shared → Prop}
    (fin : ∀ s H2 u, Inv X pins σ H2 s → Same H1 H2 → R (.ok (.ret (.str (listText ts) u))) s) (bad : ∀ e s, X.xe e s → R (.error e) s) :
    wpAny (model X.prog X.w) A.in1 (Builtin.listReprAt base ⟨[.ref a], []⟩) (fun fin s' => match fin with | .done f => R (.ok f) s' | .again c' => c'.quiet = true ∧ codeAny (model X.prog X.w) A c' R s') (fun e s' => R (.error e) s') s := by
  obtain ⟨its, rv, pl, _⟩ := I.list (hs.seq hq)
  obtain ⟨oa, na, ho, hc, _, hd⟩ := id pl
  have hca : Clear g a := hcl a List.mem_cons_self
  cases its with
  | nil =>
    cases rv
    have e : ts = [] := List.length_eq_zero_iff.mp hl
    subst e
    refine wpAny_list_repr_empty ho hd ?_
    have q := fin _ H1 s.toks (I.tok (s.toks + 1)) (Same.refl H1)
    rw [listText_nil] at q
    exact q
  | cons y its =>
    refine wpAny_list_repr_head (A := A.in1) lo.gd (fun v rest kw hm => listSameRef_of_ne (hca _ _ _ _ hm)) ho hd ?_
    refine wpAny_bind (m := newList []) (wpAny_newObj_type ?_)
    refine wpAny_pure ⟨PySem.F.quiet_list_repr_loop _, ?_⟩
    have fp := I.fpOk (H' := H1) (Nat.le_refl _) (I.hok.fresh (Nat.le_refl _))
    have q := lst_turns (P := s.heap.objs.size) (R := R) lo (fun b hb => hcl b (List.mem_cons_of_mem _ hb)) hna (fun i x h => let ⟨t, h1, h2⟩ := hit i x h; ⟨t, h1, h2.grow hs⟩) hl hsz (hs.seq hq) (Nat.ne_of_lt (Heap.lt_size ho)) fin bad
      xs.length 0 { s with heap := s.heap.push { cls := .type "list", dict := none, data := .seq [].toArray } } H1 #[] _ [] rfl (Nat.zero_le _) (I.kept (t' := s.toks) fun b o e => Heap.get?_push_of_some _ e) (Same.refl H1) fp (Heap.get?_push_size _ rfl) rfl rfl
    rw [show base + piled (List.take 0 ts) = base by simp [piled]] at q
    exact q
theorem says_lst (hq : SqL X.K H a xs) (hna : a ∉ as) (hl : ts.length = xs.length) (hit : ∀ (i : Nat) (x : V), xs[i]? = some x → ∃ t, ts[i]? = some t ∧ Says X n as H x t) : Says X (n + 2) (a :: as) H (.ref a) (listText ts) := by
  refine ⟨fun A g base pins s σ H1 u lo cl I hs ru hz => ?_, fun A g pins s σ H1 u lo cl I hs ru hz => ?_⟩
  · cases ru
    obtain ⟨its, rv, ⟨oa, na, ho, hc, _, hd⟩, _⟩ := I.list (hs.seq hq)
    refine wpAny_pyReprUnder_ref (by omega) (wpAny_pyReprObjUnder_twin (twin := "list.__repr__.under") ⟨oa, ho, hc⟩ PySem.F.slot_list_repr.toG rfl lo.rm.units0
      (call_twin_plain PySem.F.plain_list_repr_under PySem.F.entry_list_repr_under PySem.F.check_list_repr_under ⟨oa, ho, hc⟩ PySem.F.slot_list_repr.toG (PySem.F.args_list_repr_1 _) ?_))
    exact lst_body (R := callEnd _ _) (lo.mono (by omega)) cl hna hit hl hz hq I hs (fun s2 H2 tk I2 e2 => ⟨⟨_, _, rfl⟩, _, _, rfl, rfl, H2, I2, e2⟩) fun e s2 he => he
  · cases ru
    obtain ⟨its, rv, ⟨oa, na, ho, hc, _, hd⟩, _⟩ := I.list (hs.seq hq)
    have h1 := lo.rm.units
    refine call_repr_slot (by omega) ⟨oa, ho, hc⟩ PySem.F.slot_list_repr.toG (wpAny_call (codeAny_call_builtin PySem.F.slot_list_repr.plain PySem.F.entry_list_repr (PySem.F.slot_list_repr.check _ _ _ _ _ _ _ _ ⟨oa, ho, hc⟩ (PySem.F.args_list_repr_1 _) ?_)))
    exact lst_body (A := A.in1) (base := 0) (R := callEnd _ _) lo.in1 cl hna hit hl (by omega) hq I hs (fun s2 H2 tk I2 e2 => ⟨_, _, rfl, ⟨_, rfl⟩, H2, I2, e2⟩) fun e s2 he => he
end

/-! ### instances of an own class with an own __repr__ -/
section
variable {X : Cx} {n : Nat} {H : Hp} {a C dx f : Addr} {fs : List (Str × V)} {fd : FuncData} {ps : List Str} {sp : Sp} {CX : CXT} {E : XK} {t : Str} {g : List Code} {A : Around} {pins : List (Addr × Obj)} {σ : L2.St} {s : Shared}
/-- a method of one argument, called from beneath X -/
theorem own_run (F : FnOk X.prog X.w X.K X.mg X.base CX n f fd ps sp) (hb : Binds X.K fd ps []) (hx : Passes CX X E) (lo : Low X n g A) (I : Inv X pins σ H s) {Q : VK} (hsp : sp [.ref a] H Q E) :
    wpAny (model X.prog X.w) A (call (.ref f) [.ref a]) (EP X pins σ Q) X.xe s := by
  have e := I.env0
  have e0 : Env0 X.prog X.w X.K X.mg X.base A X.stack s H := ⟨lo.fr.trans e.frames, e.mod, e.bs, e.bsz, e.funs, e.frf, e.hok, e.bare⟩
  have hl := F.len _ _ _ _ hsp
  have bt := hb s [.ref a] I.kIn (by simpa using hl)
  rw [List.append_nil] at bt
  refine wpAny_call (codeAny_mono (F.run A X.stack s H ⟨[.ref a], []⟩ [.ref a] [.ref a] Q E lo.rm e0 bt (.cons rfl .nil) hsp) fun r s' hq => ?_)
  match r, hq with
  | .error e, hq => exact hx pins σ H s e s' I hq
  | .ok (.ret w), hq => exact I.after hq
theorem own_by {M : Model} {last : Value → List Value → Sem Value} {Q : Option Value → Shared → Prop} {E : Value → Shared → Prop} {K : PySem.W.Frag} {x : Addr} {ox : Obj} {od : Option Obj} {name : Str} (kx : K.In s.heap) (J : PySem.W.InstAt s.heap x ox C od)
    (hs : PySem.W.findIn K (.ref C) name = some (some (.ref f))) (hf : PySem.W.isFn K (.ref f) = true) (h : wpAny M A (last (.ref f) [.ref x]) (fun v => Q (some v)) E s) : wpAny M A (callSpecialIfBoundBy? last (.ref x) name) Q E s := by
  have done : wpAny M A (last (.ref f) [.ref x] >>= fun v => pure (some v)) Q E s := wpAny_bind (wpAny_mono h (fun _ _ q => wpAny_pure q) fun _ _ q => q)
  have bd := PySem.W.bind_fn (M := M) kx (.ref x) (beq_iff_eq.mp hf)
  simp only [callSpecialIfBoundBy?, bindSpecialIfBound?]
  refine wpAny_holding (wpAny_bind (wpAny_bind (wpAny_bind (J.type.here ((PySem.W.looks_findIn kx hs).here (wpAny_bind (wpAny_askSetting (wpAny_ite ?_))))))))
  split
  · exact wpAny_bind (bd.here (wpAny_pure done))
  · exact wpAny_tryCatch (wpAny_bind (bd.here (wpAny_pure done)))
theorem says_own (F : FnOk X.prog X.w X.K X.mg X.base CX n f fd ps sp) (hs : PySem.W.findIn X.K (.ref C) "__repr__" = some (some (.ref f))) (hf : PySem.W.isFn X.K (.ref f) = true) (hb : Binds X.K fd ps []) (hx : Passes CX X E)
    (ha : H a = some (.ins C dx fs)) (hsp : ∀ H1, Same H H1 → sp [.ref a] H1 (fun v H2 => v = .str t ∧ Same H1 H2) E) : Says X (n + 1) [] H (.ref a) t := by
  have turn : ∀ {A : Around} {g : List Code} {pins : List (Addr × Obj)} {s : Shared} {σ : L2.St} {H1 : Hp}, Low X n g A → Inv X pins σ H1 s → Same H H1 →
      wpAny (model X.prog X.w) A (call (.ref f) [.ref a]) (fun r s' => ∃ tk, r = .str t tk ∧ ∃ H2, Inv X pins σ H2 s' ∧ Same H1 H2) X.xe s := fun lo I e =>
    wpAny_mono (own_run F hb hx lo I (hsp _ e)) (fun r s' q => by
      obtain ⟨v, H2, I2, r2, ev, e2⟩ := q
      subst ev
      obtain ⟨tk, rfl⟩ := r2
      exact ⟨tk, rfl, H2, I2, e2⟩) fun _ _ q => q
  refine ⟨fun A g base pins s σ H1 u lo cl I e ru hz => ?_, fun A g pins s σ H1 u lo cl I e ru hz => ?_⟩
  · cases ru
    obtain ⟨mA, O, _⟩ := ins_get I.hok (e _ _ ha)
    obtain ⟨od, J, _⟩ := O.look
    have hu := lo.rm.units0
    refine wpAny_pyReprUnder_ref (by omega) ?_
    unfold pyReprObjUnder pyReprObjBy
    refine wpAny_bind (wpAny_cRoomFor hu (wpAny_bind (wpAny_bind (J.type.here ((PySem.W.looks_findIn I.kIn hs).here ?_)))))
    show wpAny _ _ (if (some (Value.ref f)).isNone = true then _ else _) _ _ _
    rw [if_neg (by simp)]
    refine wpAny_bind (own_by I.kIn J hs hf ?_)
    show wpAny _ _ (call (.ref f) [.ref a]) _ _ _
    refine wpAny_mono (turn (lo.mono (Nat.le_succ n)) I e) (fun r s2 q => ?_) fun _ _ q => q
    obtain ⟨tk, rfl, q⟩ := q
    exact wpAny_bind (wpAny_isInstance (typeIs_str _ _ _) isSubtype_str_str (wpAny_pure ⟨t, tk, rfl, rfl, q⟩))
  · cases ru
    obtain ⟨mA, O, _⟩ := ins_get I.hok (e _ _ ha)
    obtain ⟨od, J, _⟩ := O.look
    obtain ⟨m, hF⟩ := I.fr
    refine PySem.W.repr_K lo.in1.rm.units0 hF I.ok.mod.kin J hs hf (wpAny_mono (turn lo.in1 I e) (fun r s2 q => ?_) fun _ _ q => q)
    obtain ⟨tk, rfl, q⟩ := q
    exact ⟨⟨tk, rfl⟩, q⟩
end

/-! ### repr(x) in a body whose guards are known to be none -/
section
variable {X : Cx}
def rRepr (X : Cx) (n : Nat) : List V → Hp → VK → Prop := fun vs H Q => ∃ (v : V) (t : Str) (as : List Addr), vs = [v] ∧ Says X n as H v t ∧ t.length ≤ sizeLine ∧ ∀ H2, Same H H2 → Q (.str t) H2
theorem cr_repr {n : Nat} (hr : Room n X.A) (hg : X.A.guards = some []) : CallR X (.builtin "repr") (rRepr X n) := by
  intro pins s σ H vs us Q I r h
  obtain ⟨v, t, as, rfl, hv, hz, q⟩ := h
  obtain ⟨u, rfl, ru⟩ := vals1 r
  refine wpAny_mono (hv.top X.A [] pins s σ H u ⟨hr, rfl, hg⟩ (fun b _ => Clear.nil b) I (Same.refl H) ru hz) (fun w s2 k => ?_) fun _ _ k => k
  obtain ⟨⟨tk, rfl⟩, H2, I2, e2⟩ := k
  exact ⟨.str t, H2, I2, ⟨tk, rfl⟩, q H2 e2⟩
/-- repr(True), repr(False): whatever guards run -/
theorem cr_reprB : CallR X (.builtin "repr") (fun vs H Q => ∃ b : Bool, vs = [.bl b] ∧ Q (.str (if b then "True" else "False" : String)) H) := by
  intro pins s σ H vs us Q I r h
  obtain ⟨b, rfl, q⟩ := h
  obtain ⟨u, rfl, ru⟩ := vals1 r
  cases ru
  refine PySem.P.repr_of_bool ⟨.str (if b then "True" else "False" : String), H, I.tok _, ⟨s.toks, ?_⟩, q⟩
  cases b <;> rfl
end
end Rp
/-! defs that know that no guard runs around them, and the law's end for such a def -/
namespace Rp
open PySem PySem.Spec PyProof.Rows L2
/-- the promise of a def, where no guard runs around the call -/
structure FnG (P : Program) (w : World) (K : PySem.W.Frag) (mg : Str → Option Value) (base : Heap) (CX : CXT) (k : Nat) (f : Addr) (fd : FuncData) (ps : List Str) (sp : Sp) : Prop where
  len : ∀ vs H Q E, sp vs H Q E → vs.length = ps.length
  go : ∀ (A : Around) (outer : List Env) (s : Shared) (H : Hp) (args : Args) (us : List Value) (vs : List V) (Q : VK) (E : XK), A.guards = some [] → Room k A →
    Env0 P w K mg base A outer s H → BindsTo s fd args (ps.zip us) → Vals vs us → sp vs H Q E → codeAny (model P w) A (.call (.ref f) args) (CR CX outer P w H s Q E) s
section
variable {P : Program} {w : World} {K : PySem.W.Frag} {mg : Str → Option Value} {base : Heap} {CX : CXT} {k : Nat} {f : Addr} {fd : FuncData} {ps : List Str} {sp : Sp}
theorem FnG.of (F : FnOk P w K mg base CX k f fd ps sp) : FnG P w K mg base CX k f fd ps sp := ⟨F.len, fun A outer s H args us vs Q E _ => F.run A outer s H args us vs Q E⟩
/-- a def by its body; the body may use that no guard runs -/
theorem fn_bodyG {name qual : Str} {params : Arguments} {body : List Stmt} {scope : Scope} {dV kV doc pm cdv ct oc : Value} {an od : Option Addr} {osl : Array (Option Value)} {N : List Str}
    (lk : K.lookup f = some ⟨oc, od, .func (PySem.W.fnOf name qual params body scope dV kV doc pm an cdv ct), osl⟩) (hcd : PySem.W.codeIn K cdv qual = true) (S : FnScope N ps scope) (len : ∀ vs H Q E, sp vs H Q E → vs.length = ps.length)
    (hbody : ∀ (A : Around) (outer : List Env) (s : Shared) (H : Hp) (vs : List V) (Q : VK) (E : XK), A.guards = some [] → Room k (A.deeper (envOfC qual scope s.heap.objs.size f cdv)) → sp vs H Q E →
      ∃ t, PSs (cxOf CX P w K mg base N qual scope f cdv A outer s H E) body t ∧ t { nx := fun _ H' => Q .non H', rt := Q } (start N vs) H) :
    FnG P w K mg base CX (k + 1) f (PySem.W.fnOf name qual params body scope dV kV doc pm an cdv ct) ps sp := by
  refine ⟨len, fun A outer s H args us vs Q E gd hr e0 hb rv hsp => ?_⟩
  have here : ∀ b o, base.get? b = some o → s.heap.get? b = some o := fun b o e => (e0.bs b o e).1
  have kx : K.In s.heap := e0.mod.kin.keeps here
  have lim : s.heap.NoLimit := e0.mod.nolimit.keeps here
  have kinds : ∀ y ∈ ps.zip us, scope.names.lookup y.1 = some .local ∨ (scope.names.lookup y.1 = some .cell ∧ ((cellsFrom (s.heap.objs.size + 1) scope.names []).lookup y.1).isSome = true) := by
    rintro ⟨n, v⟩ hy
    exact (S.par n (List.of_mem_zip hy).1).imp id fun q => ⟨q, PySem.W.cellsFrom_some _ _ _ (.inl q)⟩
  refine codeAny_call_function hr.depth (kx _ _ lk) rfl S.co S.gen rfl (PySem.W.codeRec_of kx hcd) (hb _ _ _ _ (wpAny_newFunctionEnv_cells S.kind kinds fun env he s1 ic => ?_))
  subst he
  refine ⟨lim.keeps ic.toInCall.keep, codeAny_func ?_⟩
  obtain ⟨t, ht, hq⟩ := hbody A outer s H vs Q E gd (hr.deeper _) hsp
  have I : L2.Inv (cxOf CX P w K mg base N qual scope f cdv A outer s H E) [] (start N vs) H s1 := inv_start S hr.hd e0 (len _ _ _ _ hsp) rv ic
  refine wpAny_mono (ht.run [] s1 (start N vs) H _ I hq) (fun fl s' hs => ?_) fun e s' hs => hs
  cases fl with
  | next =>
    obtain ⟨σ', H', J, q⟩ := hs
    exact ⟨V.non, H', J.os, J.bare, J.base, J.hok, (rfl : RelV .non Value.none), q⟩
  | ret u =>
    obtain ⟨v, σ', H', J, rv, q⟩ := hs
    exact ⟨v, H', J.os, J.bare, J.base, J.hok, rv, q⟩
  | brk => exact hs.elim fun _ z => z.elim fun _ z => z.2.elim
  | cont => exact hs.elim fun _ z => z.elim fun _ z => z.2.elim
theorem Fun_okG {x qual : Str} {st : Stmt} {N : List Str} (F : Fun K x qual st f fd) (S : FnScope N ps (defScope st)) (len : ∀ vs H Q E, sp vs H Q E → vs.length = ps.length)
    (body : ∀ (cdv : Value) (A : Around) (outer : List Env) (s : Shared) (H : Hp) (vs : List V) (Q : VK) (E : XK), A.guards = some [] →
      Room k (A.deeper (envOfC qual (defScope st) s.heap.objs.size f cdv)) → sp vs H Q E →
      ∃ t, PSs (cxOf CX P w K mg base N qual (defScope st) f cdv A outer s H E) (defBody st) t ∧ t { nx := fun _ H' => Q .non H', rt := Q } (start N vs) H) : FnG P w K mg base CX (k + 1) f fd ps sp := by
  obtain ⟨oc, od, kV, doc, pm, an, cdv, ct, osl, rfl, lk, hcd⟩ := F.ex
  exact fn_bodyG lk hcd S len fun A outer s H vs Q E gd hr hsp => body cdv A outer s H vs Q E gd hr hsp
theorem Fun_okG0 {x qual : Str} {st : Stmt} {N : List Str} (F : Fun K x qual st f fd) (S : FnScope N ps (defScope st)) (len : ∀ vs H Q E, sp vs H Q E → vs.length = ps.length)
    (body : ∀ (cdv : Value) (A : Around) (outer : List Env) (s : Shared) (H : Hp) (vs : List V) (Q : VK) (E : XK), A.guards = some [] →
      Room k (A.deeper (envOfC qual (defScope st) s.heap.objs.size f cdv)) → sp vs H Q E →
      ∃ t, PSs (cxOf CX0 P w K mg base N qual (defScope st) f cdv A outer s H E).nox (defBody st) t ∧ t { nx := fun _ H' => Q .non H', rt := Q } (start N vs) H) : FnG P w K mg base CX0 (k + 1) f fd ps sp :=
  Fun_okG F S len fun cdv A outer s H vs Q E gd hr hsp => let ⟨t, h, q⟩ := body cdv A outer s H vs Q E gd hr hsp; ⟨t, h.nox, q⟩
end

/-! ### the call of such a def -/
section
variable {X : Cx} {CX : CXT} {k : Nat} {f : Addr} {fd : FuncData} {ps : List Str} {sp : Sp} {dvs : List V} {ds : List Value} {E : XK} {x : Str} {p pos : Pos} {e : Expr} {es : List Expr} {t : TA}
theorem run_fnG {pins : List (Addr × Obj)} {σ : L2.St} {H : Hp} {s : Shared} {Q : VK} {us : List Value} {vs : List V} (F : FnG X.prog X.w X.K X.mg X.base CX k f fd ps sp) (hg : X.A.guards = some []) (hr : Room k X.A) (hb : Binds X.K fd ps ds) (hd : Vals dvs ds)
    (hx : Passes CX X E) (I : Inv X pins σ H s) (r : Vals vs us) (h : sp (vs ++ dvs) H Q E) : wpAny (model X.prog X.w) X.A (call (.ref f) us) (EP X pins σ Q) X.xe s := by
  have all := r.append hd
  have hl := all.length.symm.trans (F.len _ _ _ _ h)
  refine wpAny_call (codeAny_mono (F.go X.A X.stack s H ⟨us, []⟩ (us ++ ds) (vs ++ dvs) Q E hg hr I.env0 (hb s us I.kIn hl) all h) fun r s' hq => ?_)
  match r, hq with
  | .error e, hq => exact hx pins σ H s e s' I hq
  | .ok (.ret u), hq => exact I.after hq
theorem pe_callG (F : FnG X.prog X.w X.K X.mg X.base CX k f fd ps sp) (hgd : X.A.guards = some []) (hr : Room k X.A) (hg : Gl X x) (hm : X.mg x = some (.ref f)) (hk : PySem.W.keepIn X.K (.ref f) = true) (hb : Binds X.K fd ps ds) (hd : Vals dvs ds) (hx : Passes CX X E)
    (ha : PA X (e :: es) t) (hdb : (x == ("__debug__" : Str)) = false := by decide) (he : starEach (e :: es) X.env = (false, eval e X.env) :: starEach es X.env := by rfl) (hpl : (backTo pos (starEach es X.env)).any (·.1) = false := by rfl) :
    PE X (.Call (.Name x p) (e :: es) [] pos) (tCall sp dvs E t) :=
  ⟨fun pins s σ H Q I h => wpAny_Call_Name_kw (ld_glob I hg hm (PySem.W.callWith_K (h₀ := X.base) I.ok.mod.kin hk (thn (ha.run pos pins s σ H _ I h) fun us s1 ⟨vs, H1, I1, r, q⟩ => ⟨I1.kIn, run_fnG F hgd hr hb hd hx I1 r q⟩) he hpl) hdb)⟩
end

/-! ### the law's end -/
/-- what stands tracked at the law's entry: the script alone, or nothing -/
def atScript (a : Addr) (u : HO) : Hp := fun b => if b = a then some u else none
theorem law_atG {P : Program} {w : World} {K : PySem.W.Frag} {mg mb : Str → Option Value} {CX : CXT} {k : Nat} {fa a : Addr} {fd : FuncData} {x : Str} {sp : Sp} {s₁ : Shared} {vs : List Value} {ns : List Int}
    (KX : K.In s₁.heap) (hns : s₁.heap.Ns mainGlobals mg) (hb : s₁.heap.Ns builtinsNs mb) (hbb : ∀ x : Str, x ≠ "__name__" → mb x = bootBuiltins x) (hlim : s₁.heap.NoLimit) (hg : s₁.gens = #[])
    (ha : s₁.heap.get? a = some { cls := .type "list", data := .seq vs.toArray }) (hr : Room k callerA)
    (F : ∀ base : Heap, K.In base → base.Ns mainGlobals mg → FnG P w K mg base CX k fa fd [x] sp) (hbind : ∀ (s : Shared) (u : Value), BindsTo s fd ⟨[u], []⟩ [(x, u)])
    (hCX : ∀ H e s', CX [] H s₁ (fun _ _ _ => False) e s' → False) (H : Hp) (hA : ∀ b, H b ≠ none → b = a) (hF : ∀ u, H a = some u → ∃ o xs, u = .frz o (.lst xs)) (hok : HOk P w H s₁.heap) (hK : H a ≠ none → K.lookup a = none)
    (hsp : sp [.ref a] H (fun v _ => v = .bl true) fun _ _ _ => False) :
    codeAny (model P w) callerA (.call (.ref fa) ⟨[.ref a], []⟩) (fun r s' => r = .ok (.ret (.bool true)) ∧ OldK s₁.heap s'.heap ∧ s'.os = s₁.os ∧ AllBare s'.gens) s₁ := by
  have split : ∀ b u, H b = some u → b = a := fun b u e => hA b fun z => by rw [z] at e; cases e
  have dictless : ∀ {b : Addr} {o : Obj} {es : Array DictEntry} {ep : Nat}, s₁.heap.get? b = some o → o.data = .dict es ep → H b = none := fun {b o es ep} e d => by
    cases q : H b with
    | none => rfl
    | some u =>
      have z := split b u q
      subst z
      rw [ha] at e
      cases e
      cases (show Data.seq vs.toArray _ = Data.dict es ep from d)
  have names : ∀ {b : Addr} {m : Str → Option Value}, s₁.heap.Ns b m → (hidT s₁.heap H).Ns b m := fun {b m} h => by
    obtain ⟨o, es, ep, e, d, r⟩ := h
    exact ⟨o, es, ep, hidT_get e (dictless e d), d, r⟩
  have kb : K.In (hidT s₁.heap H) := fun b o e => hidT_get (KX b o e) (by
    cases q : H b with
    | none => rfl
    | some u =>
      have z := split b u q
      subst z
      rw [hK fun z => by rw [q] at z; cases z] at e
      cases e)
  have M : Mod K mg (hidT s₁.heap H) := by
    obtain ⟨mc, h1, h2⟩ := hlim
    exact ⟨kb, names hns, ⟨mb, names hb, hbb⟩, ⟨mc, names h1, h2⟩⟩
  have e0 : Env0 P w K mg (hidT s₁.heap H) callerA [] s₁ H :=
    { frames := rfl, mod := M, bs := fun b o e => of_hidT e, bsz := Nat.le_of_eq (hidT_size _ _), funs := trivial, frf := fun b hb => (by simp [frs] at hb), hok := hok, bare := .of_eq hg }
  refine codeAny_mono ((F _ kb (names hns)).go callerA [] s₁ H ⟨[.ref a], []⟩ [.ref a] [.ref a] _ _ rfl hr e0 (hbind s₁ (.ref a)) (.cons rfl .nil) hsp) fun r s' h => ?_
  match r, h with
  | .error e, h => exact (hCX H e s' h).elim
  | .ok (.ret u), ⟨v, H', os, bare, un, hok', rv, q⟩ =>
    have ev : v = .bl true := q
    subst ev
    have eu : u = Value.bool true := rv
    subst eu
    refine ⟨rfl, OldK.of_keep fun b o e => ?_, os, bare⟩
    cases z : H b with
    | none => exact un.keep b o e z (by simp [frs]) (by simp)
    | some u =>
      have eb := split b u z
      subst eb
      obtain ⟨ob, xs, eu⟩ := hF u z
      subst eu
      obtain ⟨e1, _⟩ := hok b _ z
      obtain ⟨e2, _⟩ := hok' b _ (un.frzs b ob _ z)
      rw [e] at e1
      cases e1
      exact e2
theorem law_callG {P : Program} {w : World} {K : PySem.W.Frag} {mg mb : Str → Option Value} {CX : CXT} {k : Nat} {fa a : Addr} {fd : FuncData} {x : Str} {sp : Sp} {s₁ : Shared} {vs : List Value} {ns : List Int}
    (KX : K.In s₁.heap) (hns : s₁.heap.Ns mainGlobals mg) (hb : s₁.heap.Ns builtinsNs mb) (hbb : ∀ x : Str, x ≠ "__name__" → mb x = bootBuiltins x) (hlim : s₁.heap.NoLimit) (hg : s₁.gens = #[])
    (ha : s₁.heap.get? a = some { cls := .type "list", data := .seq vs.toArray }) (hi : IntsAre vs ns) (hl : ns.length ≤ sizeLine) (hr : Room k callerA)
    (F : ∀ base : Heap, K.In base → base.Ns mainGlobals mg → FnG P w K mg base CX k fa fd [x] sp) (hbind : ∀ (s : Shared) (u : Value), BindsTo s fd ⟨[u], []⟩ [(x, u)])
    (hsp : ∀ H : Hp, Only H → SqL K H a (ns.map V.int) → sp [.ref a] H (fun v _ => v = .bl true) fun _ _ _ => False)
    (hCX : ∀ H e s', CX [] H s₁ (fun _ _ _ => False) e s' → False) :
    codeAny (model P w) callerA (.call (.ref fa) ⟨[.ref a], []⟩) (fun r s' => r = .ok (.ret (.bool true)) ∧ OldK s₁.heap s'.heap ∧ s'.os = s₁.os ∧ AllBare s'.gens) s₁ := by
  have rv := vals_ints hi
  have lenV := hi.length
  have main := law_atG (ns := ns) KX hns hb hbb hlim hg ha hr F hbind hCX
  cases hk : K.lookup a with
  | some o =>
    have e := KX a o hk
    rw [ha] at e
    cases e
    have nothing : Only fun _ => none := fun b => .inl rfl
    exact main (fun _ => none) (fun b z => absurd rfl z) (fun u z => by cases z) (fun b u z => by cases z) (fun z => absurd rfl z)
      (hsp _ nothing (.inr ⟨_, vs.toArray, _, hk, rfl, rfl, rfl, by rw [List.size_toArray, lenV]; exact hl, by simpa using rv⟩))
  | none =>
    have at_ : atScript a (.frz { cls := .type "list", data := .seq vs.toArray } (.lst (ns.map V.int))) a = some (.frz { cls := .type "list", data := .seq vs.toArray } (.lst (ns.map V.int))) := if_pos rfl
    have off : ∀ b, b ≠ a → atScript a (.frz { cls := .type "list", data := .seq vs.toArray } (.lst (ns.map V.int))) b = none := fun b hb => if_neg hb
    refine main (atScript a (.frz { cls := .type "list", data := .seq vs.toArray } (.lst (ns.map V.int)))) (fun b z => Classical.byContradiction fun hb => z (off b hb)) (fun u z => ?_) (fun b u z => ?_) (fun _ => hk)
      (hsp _ (fun b => ?_) (.inl (.inr ⟨_, at_⟩)))
    · rw [at_] at z
      cases z
      exact ⟨_, _, rfl⟩
    · by_cases hb : b = a
      · subst hb
        rw [at_] at z
        cases z
        exact ⟨ha, by rw [List.length_map]; exact hl, vs, _, rv, ha⟩
      · rw [off b hb] at z
        cases z
    · by_cases hb : b = a
      · subst hb
        exact .inr ⟨_, _, at_⟩
      · exact .inl (off b hb)
/-- the goal that k_head leaves, from the law's promise where no guard runs -/
theorem walk_ofG {l : PySem.W.OpenLaw} {n k : Nat} {q : Program} {loose : List Str} {XP : (Str → Option Value) → Heap → Prop} {YP : World → Heap → Prop} {d : DefRec} {K : Params → PySem.W.Frag} {CX : World → CXT} {sp : World → Sp} {x : Str}
    (hn : l.most = some n) (hn2 : n ≤ sizeLine) (hdf : d.params.defaults = []) (hr : Room k callerA) (hY : ∀ (w : World) (h : Heap), YP w h → (K w.params).In h)
    (F : ∀ (w : World) (mg : Str → Option Value) (fa : Addr) (h : Heap), (K w.params).In h → h.Ns mainGlobals mg → mg d.name = some (.ref fa) →
      ∃ fd : FuncData, (∀ (s : Shared) (u : Value), BindsTo s fd ⟨[u], []⟩ [(x, u)]) ∧ ∀ base : Heap, (K w.params).In base → base.Ns mainGlobals mg → FnG l.prog w (K w.params) mg base (CX w) k fa fd [x] (sp w))
    (hsp : ∀ (w : World) (H : Hp) (a : Addr) (ns : List Int), ns.length ≤ n → Only H → SqL (K w.params) H a (ns.map V.int) → sp w [.ref a] H (fun v _ => v = .bl true) fun _ _ _ => False)
    (hCX : ∀ (w : World) (H : Hp) (s : Shared) (e : Value) (s' : Shared), CX w [] H s (fun _ _ _ => False) e s' → False) :
    PySem.W.WalkO q loose XP YP l.row.toRowW d [] (fun f vs => PySem.call f vs) :=
  Att.attach_call hn hdf fun w s₀ s₁ mg mb fa o pm cd doc a vs ns G Y ho hd hcd hmg hobj hints hlen hg =>
    let ⟨_, hb, hF⟩ := F w mg fa _ (hY w _ Y) G.T.g hmg
    law_callG (hY w _ Y) G.T.g G.T.b G.T.builtins G.T.nolimit hg hobj hints (Nat.le_trans hlen hn2) hr hF hb (fun H hO hS => hsp w H a ns hlen hO hS) fun H e s' => hCX w H s₁ e s'
end Rp
/-! sep.join(reversed(xs)), xs a list of texts -/
namespace Rp
open PySem PySem.Spec PyProof.Rows L2
section
variable {prog : Program} {w : World} {A : Around} {E : Value → Shared → Prop} {s : Shared} {x : Str} {t : Tok} {Q : Value → Shared → Prop}
theorem join_rev {it l : Addr} {items : Array Value} {ys : List Str} (hh : A.handled = none) (hit : s.heap.IsRevIter it l ((items.size : Int) - 1)) (hl : s.heap.IsList l items) (hne : l ≠ it) (hn : items.size ≤ sizeLine)
    (hi : StrsAre items.toList.reverse ys) (hok : (ys.map (·.length)).sum + ys.length * x.length ≤ 16777216)
    (h : ∀ (h' : Heap) (t' k : Tok), (∀ b o, b ≠ it → s.heap.get? b = some o → h'.get? b = some o) → Q (.str (Txt.join x ys) t') { s with heap := h', toks := k }) :
    wpAny (model prog w) A (call (.builtin "str.join") [.str x t, .ref it]) Q E s := by
  refine wpAny_call (codeAny_call_builtin F.slot_str_join.plain F.entry_str_join (F.slot_str_join.check _ _ _ _ _ _ _ _ (typeIs_str _ _ _) (F.args_str_join_2 _ _) ?_))
  have hT : s.TypeIs (.ref it) "list_reverseiterator" := Heap.IsRevIter.typeIs hit
  have hh1 : A.in1.handled = none := hh
  rw [join_tree_other]
  refine wpAny_bind (wpAny_typeOf hT ?_)
  show wpAny _ A.in1 ((pyIter (.ref it)).tryCatch _ >>= fun j => collect j >>= fun vs => joinTail x vs) _ _ s
  refine wpAny_bind (wpAny_tryCatch (wpAny_pyIter_revIter hit (wpAny_bind (RT.collect_rev (A := A.in1) hh1 hit hl hne hn fun h' tk acc hk hacc => ?_))))
  have el : acc.toList = items.toList.reverse := by
    have hs : items.size = items.toList.length := by simp
    have ha : acc.toList.length = items.toList.length := by rw [Array.length_toList, hacc.1, hs]
    refine List.ext_getElem? fun j => ?_
    by_cases hj : j < items.toList.length
    · have hja : j < acc.toList.length := by omega
      have e1 : acc.toList[j]? = some acc.toList[j] := List.getElem?_eq_getElem hja
      have e2 := hacc.2 j acc.toList[j] (by rw [← Array.getElem?_toList]; exact e1)
      rw [e1, List.getElem?_reverse hj, ← e2, hs] <;> simp
    · rw [List.getElem?_eq_none (by omega), List.getElem?_eq_none (by rw [List.length_reverse]; omega)]
  rw [el]
  obtain ⟨q, hv, ht⟩ := strsAre_values hi
  rw [hv]
  subst ht
  have ok := joinOk_of hok
  have ok' := ok
  unfold JoinOk at ok'
  rw [Bool.not_eq_true'] at ok'
  have g : Gives (joinTail x (strValues q)) (joinMade x q) := by
    have g0 := gives_joinTail x q ok'
    rcases q with _ | ⟨c, _ | ⟨d, r⟩⟩ <;> exact g0
  exact g prog w A (wants Q E) { s with heap := h', toks := tk } (post_join q ⟨joinFit_length ok', fun t' k => h h' t' k hk⟩)
end

section
variable {X : Cx} {o e : Expr} {to te : TE} {p2 apos pos pos2 : Pos}
/-- o.join(reversed(e)) -/
def tJoinRev (K : PySem.W.Frag) (to te : TE) : TE := fun σ H Q => to σ H fun v H1 => ∃ sep : Str, v = .str sep ∧ te σ H1 fun u H2 => ∃ (a : Addr) (ys : List Str), u = .ref a ∧ SqL K H2 a (ys.map V.str) ∧
  (ys.map (·.length)).sum + ys.length * sep.length ≤ 16777216 ∧ Q (.str (Txt.join sep ys.reverse)) H2
theorem pe_joinRev (hc : X.calm = true) (hg : Gl X "reversed") (hm : X.mg "reversed" = none) (ho : PE X o to) (he : PE X e te)
    (hs : starEach [e] X.env = (false, eval e X.env) :: starEach [] X.env := by rfl)
    (hs2 : starEach [.Call (.Name "reversed" p2) [e] [] pos2] X.env = [(false, eval (.Call (.Name "reversed" p2) [e] [] pos2) X.env)] := by rfl)
    (hbase : attributeBase o "join" X.env (eval o X.env) = eval o X.env := by rfl) (hline : (apos.endLine == pos.line) = true := by rfl) :
    PE X (.Call (.Attribute o "join" apos) [.Call (.Name "reversed" p2) [e] [] pos2] [] pos) (tJoinRev X.K to te) := by
  refine ⟨fun pins s σ H Q I h => ?_⟩
  refine PySem.Call_method1 hbase hs2 hline (thn (ho.run pins s σ H _ I h) fun v s1 k => ?_)
  obtain ⟨xv, H1, I1, r1, sep, rfl, q1⟩ := k
  obtain ⟨t, rfl⟩ := r1
  refine ⟨"str", _, F.plainAttrs_str, F.slot_str_join, F.type_str_join, typeIs_str _ _ _, (fun _ e => nomatch e), Calls.callWith_builtin rfl (Calls.evalArgs_plain (Calls.spliced_cons ?_))⟩
  refine Call_ (ld_blt I1 hg hm PyProof.Rows.boot_reversed (PyProof.Rows.callWith_type1 (args_cons (thn (he.run pins s1 σ H1 _ I1 q1) fun u s2 k => args_nil ?_) hs) hs rfl))
  obtain ⟨yv, H2, I2, r2, a, ys, rfl, hq, hz, q2⟩ := k
  obtain rfl : u = Value.ref a := r2
  obtain ⟨its, rv, pl, hsz⟩ := I2.list hq
  refine call_reversed_list pl.isList (Calls.spliced_nil ?_)
  have hl := pl.isList
  obtain ⟨ol, hol, _⟩ := id hl
  have grow : ∀ b o, s2.heap.get? b = some o → (s2.heap.push (revObj a ((its.toArray.size : Int) - 1))).get? b = some o := fun b o e => Heap.get?_push_of_some _ e
  have I3 : L2.Inv X pins σ H2 { s2 with heap := s2.heap.push (revObj a ((its.toArray.size : Int) - 1)) } := I2.kept (t' := s2.toks) grow
  obtain ⟨f0, f1, f2, f3, f4, f5⟩ := I2.fpOk (H' := H2) (b := s2.heap.objs.size) (Nat.le_refl _) (I2.hok.fresh (Nat.le_refl _))
  have st := strs_of_vals (us := its.reverse) (ys := ys.reverse) (by rw [List.map_reverse]; exact rv.reverse)
  refine join_rev (s := { s2 with heap := s2.heap.push (revObj a ((its.toArray.size : Int) - 1)) }) (items := its.toArray) (I1.ok.hd hc) ⟨_, Heap.get?_push_size _ rfl, rfl, rfl⟩ (hl.push _) (Nat.ne_of_lt (Heap.lt_size hol)) (by rw [List.size_toArray, ← rv.length]; exact hsz)
    (by simpa using st) (by simpa [List.sum_reverse] using hz) fun h' t' k hk => ?_
  exact ⟨.str _, H2, I3.turned (t' := k) (fun b o hb e => hk b o hb e) f0 f1 f3 f4 f5, ⟨t', rfl⟩, q2⟩
end
end Rp
/-! repr of tuples, by the abstract heap -/
namespace Rp
open PySem PySem.Spec PyProof.Rows L2
section
variable {X : Cx} {n : Nat} {as : List Addr} {H : Hp} {a : Addr} {xs : List V} {ts : List Str} {base : Nat} {g : List Code} {A : Around} {pins : List (Addr × Obj)} {σ : L2.St}
theorem tup_fold (lo : Low X n g A) (hcl : ∀ b ∈ as, Clear g b) {Q : (Array Str × Nat) → Shared → Prop} : ∀ (xs : List V) (us : List Value) (ts : List Str) (acc : Array Str) (m : Nat) (s : Shared) (H1 : Hp), Vals xs us → ts.length = xs.length →
    (∀ (i : Nat) (x : V), xs[i]? = some x → ∃ t, ts[i]? = some t ∧ Says X n as H x t) → m + piled ts ≤ sizeLine → Inv X pins σ H1 s → Same H H1 →
    (∀ s2 H2, Inv X pins σ H2 s2 → Same H1 H2 → Q ⟨acc ++ ts.toArray, m + piled ts⟩ s2) → wpAny (model X.prog X.w) A (forIn us (⟨acc, m⟩ : (Array Str × Nat)) tupBody) Q X.xe s := by
  intro xs
  induction xs with
  | nil =>
    intro us ts acc m s H1 rv hl _ _ I e h
    cases rv
    have : ts = [] := List.length_eq_zero_iff.mp hl
    subst this
    have q := h s H1 I (Same.refl H1)
    rw [List.forIn_nil]
    exact wpAny_pure (by simpa [piled] using q)
  | cons x xs ih =>
    intro us ts acc m s H1 rv hl hs hz I e h
    cases rv with
    | cons r1 r2 =>
      rename_i u us
      match ts, hl, hs, hz, h with
      | t :: ts, hl, hs, hz, h =>
        obtain ⟨t', ht, hsay⟩ := hs 0 x rfl
        cases ht
        rw [piled_cons] at hz
        rw [List.forIn_cons]
        refine wpAny_bind (wpAny_bind (wpAny_mono (hsay.und A g (m + 1) pins s σ H1 u lo hcl I e r1 (by omega)) (fun r s2 k => ?_) fun _ _ k => k))
        obtain ⟨er, H2, I2, e2⟩ := k
        subst er
        refine wpAny_pure (ih us ts (acc.push r) (m + (r.length + 2)) s2 H2 r2 (by simpa using hl) (fun i y hy => hs (i + 1) y hy) (by omega) I2 (e.trans e2) fun s3 H3 I3 e3 => ?_)
        have q := h s3 H3 I3 (e2.trans e3)
        have eq : m + piled (r :: ts) = m + (r.length + 2) + piled ts := by rw [piled_cons]; omega
        rw [eq] at q
        simpa using q
theorem tup_body {id : String} {rest : List Value} (lo : Low X (n + 1) g A) (hcl : ∀ b ∈ a :: as, Clear g b) (hna : a ∉ as) (hit : ∀ (i : Nat) (x : V), xs[i]? = some x → ∃ t, ts[i]? = some t ∧ Says X n as H x t) (hl : ts.length = xs.length)
    (hsz : base + (tupleText ts).length ≤ sizeLine) (hq : SqT X.K H a xs) {s : Shared} {H1 : Hp} (I : Inv X pins σ H1 s) (hs : Same H H1) {R : Result → Shared → Prop}
    (hg : (Code.builtin id ⟨.ref a :: rest, []⟩).guards = [Code.builtin id ⟨.ref a :: rest, []⟩]) (hw : (Code.builtin id ⟨.ref a :: rest, []⟩).weight = 1) (hu : (Code.builtin id ⟨.ref a :: rest, []⟩).cUnits = 1) (he : (Code.builtin id ⟨.ref a :: rest, []⟩).envs = [])
    (fin : ∀ s H2 u, Inv X pins σ H2 s → Same H1 H2 → R (.ok (.ret (.str (tupleText ts) u))) s) (bad : ∀ e s, X.xe e s → R (.error e) s) :
    wpOwn (model X.prog X.w) A (.builtin id ⟨.ref a :: rest, []⟩) (Builtin.tupleReprAt base ⟨[.ref a], []⟩) (fun fin s' => match fin with | .done f => R (.ok f) s' | .again c' => c'.quiet = true ∧ codeAny (model X.prog X.w) A c' R s') (fun e s' => R (.error e) s') s := by
  have hsq : SqT X.K H1 a xs := hq.elim (fun h => .inl (h.elim (fun h => .inl (hs _ _ h)) fun ⟨o, h⟩ => .inr ⟨o, hs _ _ h⟩)) .inr
  obtain ⟨its, rv, ⟨o, ho, hc, na, hd⟩, _⟩ := I.tuple hsq
  have hp := piled_le_tupleText ts
  have hsz0 : (tupleText ts).length ≤ sizeLine := by omega
  have hlen : ts.length = its.toArray.size := by rw [hl, rv.length]; simp
  rw [tuple_repr_tree, tupleReprUnderWay_eq]
  refine wpOwn_bind (wpOwn_stackTailAny lo.gd (tupGuardF_off _) (tupGuardF_pos _) ?_)
  rw [show (g.any fun c => tupGuardF (.ref a) (c, default)) = false from List.any_eq_false.mpr fun c hc => by
    rw [tupGuardF_of_clear (hcl a List.mem_cons_self) c hc]
    exact Bool.false_ne_true]
  refine wpOwn_of_wpAny ?_
  show wpAny _ _ (tupleReprRest base (.ref a)) _ _ s
  unfold tupleReprRest Builtin.Tuple.tupleItemsOf
  refine wpAny_bind (wpAny_bind (wpAny_seqItems ho hd (wpAny_pure ?_)))
  rw [← Array.forIn_toList]
  refine wpAny_bind (wpAny_mono (tup_fold (lo.guard hg hw hu he) (fun b hb => (hcl b (List.mem_cons_of_mem _ hb)).cons (a := a) fun e => hna (e ▸ hb)) xs its ts #[] base s H1 rv hl hit (by omega) I hs
    (Q := fun r s2 => r = ⟨#[] ++ ts.toArray, base + piled ts⟩ ∧ ∃ H2, Inv X pins σ H2 s2 ∧ Same H1 H2) fun s2 H2 I2 e2 => ⟨rfl, H2, I2, e2⟩) (fun r s2 k => ?_) fun e s2 k => bad e s2 k)
  obtain ⟨er, H2, I2, e2⟩ := k
  subst er
  refine wpAny_bind (wpAny_mkStr (wpAny_pure ?_) (by simpa [tupleText, hlen] using hsz0))
  have h1 := fin _ H2 s2.toks (I2.tok (s2.toks + 1)) e2
  simpa [tupleText, hlen] using h1
theorem says_tup (hq : SqT X.K H a xs) (hna : a ∉ as) (hl : ts.length = xs.length) (hit : ∀ (i : Nat) (x : V), xs[i]? = some x → ∃ t, ts[i]? = some t ∧ Says X n as H x t) : Says X (n + 2) (a :: as) H (.ref a) (tupleText ts) := by
  refine ⟨fun A g base pins s σ H1 u lo cl I hs ru hz => ?_, fun A g pins s σ H1 u lo cl I hs ru hz => ?_⟩
  all_goals
    cases ru
    have hsq : SqT X.K H1 a xs := hq.elim (fun h => .inl (h.elim (fun h => .inl (hs _ _ h)) fun ⟨o, h⟩ => .inr ⟨o, hs _ _ h⟩)) .inr
    obtain ⟨its, rv, ⟨o, ho, hc, na, hd⟩, _⟩ := I.tuple hsq
  · refine wpAny_pyReprUnder_ref (by omega) (wpAny_pyReprObjUnder_twin (twin := "tuple.__repr__.under") ⟨o, ho, hc⟩ PySem.F.slot_tuple_repr rfl lo.rm.units0
      (call_twin_own (PySem.F.quiet_tuple_repr_under _) PySem.F.entry_tuple_repr_under PySem.F.check_tuple_repr_under ⟨o, ho, hc⟩ PySem.F.slot_tuple_repr (PySem.F.args_tuple_repr_1 _)
        (tup_body (R := callEnd _ _) (lo.mono (by omega)) cl hna hit hl hz hq I hs (by show (if Code.isGuard _ then _ else _) = _; rw [isGuard_tuple_repr_under]; rfl) (by simp only [Code.weight, isGuard_tuple_repr_under]; rfl) (by rfl) (by first | rfl | simp [Code.envs, Code.isFrame])
          (fun s2 H2 tk I2 e2 => ⟨⟨_, _, rfl⟩, _, _, rfl, rfl, H2, I2, e2⟩) fun e s2 he => he)))
  · have h1 := lo.rm.units
    refine call_repr_slot (by omega) ⟨o, ho, hc⟩ PySem.F.slot_tuple_repr (wpAny_call (codeAny_call_builtin_own (Code.quiet_builtin _ (by decide +kernel)) PySem.F.entry_tuple_repr (PySem.F.slot_tuple_repr.check _ _ _ _ _ _ _ _ ⟨o, ho, hc⟩ (PySem.F.args_tuple_repr_1 _)
      (tup_body (A := A.in1) (base := 0) (R := callEnd _ _) lo.in1 cl hna hit hl (by omega) hq I hs (by show (if Code.isGuard _ then _ else _) = _; rw [isGuard_tuple_repr]; rfl) (by simp only [Code.weight, isGuard_tuple_repr]; rfl) (by rfl) (by first | rfl | simp [Code.envs, Code.isFrame])
        (fun s2 H2 tk I2 e2 => ⟨_, _, rfl, ⟨_, rfl⟩, H2, I2, e2⟩) fun e s2 he => he))))
end
end Rp
/-! a caught error: isinstance of it, a def that is handed it, its fields; a method that may raise; count of truths -/
namespace Rp
open PySem PySem.Spec PyProof.Rows L2
/-- the dict of an exception that is looked at stands tracked, or there is none -/
def HasD (H : Hp) (d : Option Addr) : Prop := d = none ∨ ∃ dx fs, d = some dx ∧ H dx = some (.xd fs)
theorem exc_inst {X : Cx} {pins : List (Addr × Obj)} {σ : L2.St} {H : Hp} {s : Shared} {a D : Addr} {oe : Obj} {d : Option Addr} (I : Inv X pins σ H s) (hp : (a, oe) ∈ X.pn) (hz : Zc (.ref D) d oe) (hf : ∃ vs, oe.data = .fields vs) (hd : HasD H d) :
    ∃ od, PySem.W.InstAt s.heap a oe D od := by
  obtain ⟨hget, _⟩ := I.pin (a, oe) (List.mem_append_left _ hp)
  obtain ⟨vs, hv⟩ := hf
  rcases hd with rfl | ⟨dx, fs, rfl, hx⟩
  · refine ⟨none, ?_⟩
    obtain ⟨oc, od, oda, osl⟩ := oe
    obtain ⟨h1, h2⟩ := hz
    dsimp only at h1 h2 hv
    subst h1 h2 hv
    exact ⟨hget, rfl, rfl, trivial⟩
  · have hx : ObjOk X.prog X.w H s.heap dx (.xd fs) := I.hok dx _ hx
    obtain ⟨mA, hns, hr⟩ := hx
    obtain ⟨od, ho, hl⟩ := lookIn_ns hns
    exact ⟨some od, hget, hz.1, by unfold PySem.W.notCls; rw [hv] <;> rfl, by rw [hz.2]; exact ho⟩
/-- isinstance(e, c), e the error at a -/
def rIsX (K : PySem.W.Frag) (a : Addr) (cls : Value) (d : Option Addr) : List V → Hp → VK → Prop := fun xs H Q => ∃ (D : Addr) (c : V) (cv : Value) (b : Bool), xs = [.ref a, c] ∧ cls = .ref D ∧ ExcC K D ∧ ClsV c cv ∧ HasD H d ∧ PySem.W.kitOne K (.ref D) cv = some b ∧ Q (.bl b) H
/-- isinstance(e, (c1, c2, ..)) -/
def rIsXT (K : PySem.W.Frag) (a : Addr) (cls : Value) (d : Option Addr) : List V → Hp → VK → Prop := fun xs H Q => ∃ (D tp : Addr) (cs : List V) (us : List Value) (b : Bool), xs = [.ref a, .ref tp] ∧ cls = .ref D ∧ ExcC K D ∧ H tp = some (.tup cs) ∧ Paired ClsV cs us ∧ HasD H d ∧ PySem.W.kitAny K (.ref D) us = some b ∧ Q (.bl b) H
section
variable {X : Cx} {a : Addr} {oe : Obj} {cls : Value} {d : Option Addr}
theorem call_isX (hp : (a, oe) ∈ X.pn) (hz : Zc cls d oe) (hf : ∃ vs, oe.data = .fields vs) : CallR X (.builtin "isinstance") (rIsX X.K a cls d) := by
  intro pins s σ H xs us Q I r h
  obtain ⟨D, c, cv, b, rfl, rfl, C, k, hd, e, q⟩ := h
  obtain ⟨u1, u2, rfl, r1, r2⟩ := vals2 r
  have e2 := k.eq r2
  subst e2
  cases r1
  obtain ⟨od, J⟩ := exc_inst I hp hz hf hd
  have hcl : (PySem.W.clsIn X.K D).isSome = true := by
    obtain ⟨cd, hc, _⟩ := PySem.W.any_some C.hd
    rw [hc]; rfl
  exact PySem.W.kia_one (PySem.W.kitx_exc (ox := oe) (od := od) hcl C.hg C.hk C.hs C.ha C.hn C.ht C.hm) I.kIn J e (fun z => nomatch z) fun tk => ⟨.bl b, H, I.tok tk, rfl, q⟩
theorem call_isXT (hp : (a, oe) ∈ X.pn) (hz : Zc cls d oe) (hf : ∃ vs, oe.data = .fields vs) : CallR X (.builtin "isinstance") (rIsXT X.K a cls d) := by
  intro pins s σ H xs us Q I r h
  obtain ⟨D, tp, cs, ws, b, rfl, rfl, C, hT, k, hd, e, q⟩ := h
  obtain ⟨u1, u2, rfl, r1, r2⟩ := vals2 r
  cases r1
  cases (show u2 = Value.ref tp from r2)
  obtain ⟨od, J⟩ := exc_inst I hp hz hf hd
  have hcl : (PySem.W.clsIn X.K D).isSome = true := by
    obtain ⟨cd, hc, _⟩ := PySem.W.any_some C.hd
    rw [hc]; rfl
  obtain ⟨_, its, rv, o, h1, h2, n, h3⟩ := (show ObjOk X.prog X.w H s.heap tp (.tup cs) from I.hok tp _ hT)
  have e3 := ClsV.all k rv
  subst e3
  obtain ⟨oc, oda, dt, sl⟩ := o
  simp only at h2 h3
  subst h2 h3
  exact PySem.W.kia_tup (PySem.W.kitx_exc (ox := oe) (od := od) hcl C.hg C.hk C.hs C.ha C.hn C.ht C.hm) I.kIn J h1 e (fun z => nomatch z) fun tk => ⟨.bl b, H, I.tok tk, rfl, q⟩
end

/-! ### a def that is handed the error -/
/-- what it promises: a the error, cls its class, d its dict -/
abbrev SpE := Addr → Value → Option Addr → Sp
structure FnE (P : Program) (w : World) (K : PySem.W.Frag) (mg : Str → Option Value) (base : Heap) (CX : CXT) (k : Nat) (f : Addr) (fd : FuncData) (ps : List Str) (sp : SpE) : Prop where
  len : ∀ a cls d vs H Q E, sp a cls d vs H Q E → vs.length = ps.length
  run : ∀ (A : Around) (outer : List Env) (s : Shared) (H : Hp) (args : Args) (us : List Value) (vs : List V) (Q : VK) (E : XK) (p : Addr × Obj) (cls : Value) (d : Option Addr), L2H.RoomH k A → L2H.PinOk outer H s p → Zc cls d p.2 → (∃ vs, p.2.data = .fields vs) →
    Env0 P w K mg base A outer s H → BindsTo s fd args (ps.zip us) → Vals vs us → sp p.1 cls d vs H Q E → codeAny (model P w) A (.call (.ref f) args) (CR CX outer P w H s Q E) s
section
variable {P : Program} {w : World} {K : PySem.W.Frag} {mg : Str → Option Value} {base : Heap} {CX : CXT} {k : Nat} {f : Addr} {fd : FuncData} {ps : List Str} {sp : SpE}
theorem fn_ofE {name qual : Str} {params : Arguments} {body : List Stmt} {scope : Scope} {dV kV doc pm cdv ct oc : Value} {an od : Option Addr}
    {osl : Array (Option Value)} {N : List Str} (lk : K.lookup f = some ⟨oc, od, .func (PySem.W.fnOf name qual params body scope dV kV doc pm an cdv ct), osl⟩) (hcd : PySem.W.codeIn K cdv qual = true) (S : FnScope N ps scope)
    (len : ∀ a cls d vs H Q E, sp a cls d vs H Q E → vs.length = ps.length)
    (hbody : ∀ (A : Around) (outer : List Env) (s : Shared) (H : Hp) (vs : List V) (Q : VK) (E : XK) (p : Addr × Obj) (cls : Value) (d : Option Addr), Zc cls d p.2 → (∃ vs, p.2.data = .fields vs) → L2H.RoomH k (A.deeper (envOfC qual scope s.heap.objs.size f cdv)) → sp p.1 cls d vs H Q E →
      ∃ t, PSs (L2H.cxH CX P w K mg base N qual scope f cdv A outer s H E p) body t ∧ t { nx := fun _ H' => Q .non H', rt := Q } (L2.start N vs) H) :
    FnE P w K mg base CX (k + 1) f (PySem.W.fnOf name qual params body scope dV kV doc pm an cdv ct) ps sp := by
  refine ⟨len, fun A outer s H args us vs Q E p cls d hr hpin hz hf e0 hb r hsp => ?_⟩
  have hl := len _ _ _ _ _ _ _ hsp
  have KX : K.In s.heap := e0.mod.kin.keeps fun b o e => (e0.bs b o e).1
  have lim : s.heap.NoLimit := e0.mod.nolimit.keeps fun b o e => (e0.bs b o e).1
  have kinds : ∀ y ∈ ps.zip us, scope.names.lookup y.1 = some .local ∨ (scope.names.lookup y.1 = some .cell ∧ ((cellsFrom (s.heap.objs.size + 1) scope.names []).lookup y.1).isSome = true) := fun ⟨n, v⟩ hy => by
    rcases S.par n (List.of_mem_zip hy).1 with q | q
    · exact .inl q
    · exact .inr ⟨q, PySem.W.cellsFrom_some _ _ _ (.inl q)⟩
  refine codeAny_call_function hr.depth (KX _ _ lk) rfl S.co S.gen rfl (PySem.W.codeRec_of KX hcd) (hb _ _ _ _ ?_)
  refine wpAny_newFunctionEnv_cells S.kind kinds fun env he s1 x => ?_
  subst he
  refine ⟨lim.keeps x.toInCall.keep, codeAny_func ?_⟩
  obtain ⟨t, ht, hq⟩ := hbody A outer s H vs Q E p cls d hz hf (hr.deeper _) hsp
  have I : Inv (L2H.cxH CX P w K mg base N qual scope f cdv A outer s H E p) [] (L2.start N vs) H s1 := L2H.inv_startH S hpin e0 hl r x
  refine wpAny_mono (ht.run [] s1 (L2.start N vs) H _ I hq) (fun fl s' hs => ?_) fun e s' hs => hs
  cases fl with
  | next =>
    obtain ⟨σ', H', J, q⟩ := hs
    exact ⟨V.non, H', J.os, J.bare, J.base, J.hok, (rfl : RelV .non Value.none), q⟩
  | ret u =>
    obtain ⟨v, σ', H', J, rv, q⟩ := hs
    exact ⟨v, H', J.os, J.bare, J.base, J.hok, rv, q⟩
  | brk => exact hs.elim fun _ z => z.elim fun _ z => z.2.elim
  | cont => exact hs.elim fun _ z => z.elim fun _ z => z.2.elim
theorem Fun_okE {x qual : Str} {st : Stmt} {N : List Str} (F : Fun K x qual st f fd) (S : FnScope N ps (defScope st)) (len : ∀ a cls d vs H Q E, sp a cls d vs H Q E → vs.length = ps.length)
    (body : ∀ (cdv : Value) (A : Around) (outer : List Env) (s : Shared) (H : Hp) (vs : List V) (Q : VK) (E : XK) (p : Addr × Obj) (cls : Value) (d : Option Addr), Zc cls d p.2 → (∃ vs, p.2.data = .fields vs) →
      L2H.RoomH k (A.deeper (envOfC qual (defScope st) s.heap.objs.size f cdv)) → sp p.1 cls d vs H Q E →
      ∃ t, PSs (L2H.cxH CX P w K mg base N qual (defScope st) f cdv A outer s H E p) (defBody st) t ∧ t { nx := fun _ H' => Q .non H', rt := Q } (start N vs) H) : FnE P w K mg base CX (k + 1) f fd ps sp := by
  obtain ⟨oc, od, kV, doc, pm, an, cdv, ct, osl, rfl, lk, hcd⟩ := F.ex
  exact fn_ofE lk hcd S len fun A outer s H vs Q E p cls d hz hf hr hsp => body cdv A outer s H vs Q E p cls d hz hf hr hsp
end
section
variable {X : Cx} {CX : CXT} {k : Nat} {f : Addr} {fd : FuncData} {ps : List Str} {sp : SpE} {E : XK} {x : Str} {p pos : Pos} {e : Expr} {es : List Expr} {t : TA} {a : Addr} {oe : Obj} {cls : Value} {d : Option Addr}
theorem pe_callE (F : FnE X.prog X.w X.K X.mg X.base CX k f fd ps sp) (hr : L2H.RoomH k X.A) (hp : (a, oe) ∈ X.pn) (hz : Zc cls d oe) (hf : ∃ vs, oe.data = .fields vs) (hg : Gl X x) (hm : X.mg x = some (.ref f)) (hk : PySem.W.keepIn X.K (.ref f) = true) (hb : Binds X.K fd ps []) (hx : Passes CX X E)
    (ha : PA X (e :: es) t) (hdb : (x == ("__debug__" : Str)) = false := by decide) (he : starEach (e :: es) X.env = (false, eval e X.env) :: starEach es X.env := by rfl) (hpl : (backTo pos (starEach es X.env)).any (·.1) = false := by rfl) :
    PE X (.Call (.Name x p) (e :: es) [] pos) (tCall (sp a cls d) [] E t) := by
  refine ⟨fun pins s σ H Q I h => ?_⟩
  refine wpAny_Call_Name_kw (ld_glob I hg hm ?_ hdb)
  refine PySem.W.callWith_K (h₀ := X.base) I.ok.mod.kin hk (thn (ha.run pos pins s σ H _ I h) fun us s1 ⟨vs, H1, I1, r, q⟩ => ⟨I1.kIn, ?_⟩) he hpl
  have q : sp a cls d (vs ++ []) H1 Q E := q
  rw [List.append_nil] at q
  have hl : us.length = ps.length := by rw [← r.length]; exact F.len _ _ _ _ _ _ _ q
  have b := hb s1 us I1.kIn (by rw [List.append_nil]; exact hl)
  rw [List.append_nil] at b
  have P1 := I1.pin (a, oe) (List.mem_append_left _ hp)
  have hpin : L2H.PinOk X.stack H1 s1 (a, oe) := ⟨P1.1, P1.2.1, fun hm => (List.mem_cons.mp (I1.stkSub a hm)).elim P1.2.2.1 P1.2.2.2.1, P1.2.2.2.2⟩
  refine wpAny_call (codeAny_mono (F.run X.A X.stack s1 H1 ⟨us, []⟩ us vs Q E (a, oe) cls d hr hpin hz hf I1.env0 b r q) fun r s' hq => ?_)
  match r, hq with
  | .error e, hq => exact hx pins σ H1 s1 e s' I1 hq
  | .ok (.ret u), hq => exact I1.after hq
end

/-! ### o.m(e, ..) that may raise, in a try -/
def tMethE (C : Addr) (m : Str) (sp : Sp) (E : L2.St → XK) (ta : TE) (t : TA) : TE := fun σ H Q => ta σ H fun x H1 => ∃ a dx fs, x = .ref a ∧ H1 a = some (.ins C dx fs) ∧ fs.lookup m = none ∧ t σ H1 fun vs H2 => sp (x :: vs) H2 Q (E σ)
theorem pe_methE {X : Cx} {CX : CXT} {k : Nat} {C f : Addr} {fd : FuncData} {ps : List Str} {m : Str} {sp : Sp} {E : L2.St → XK} {o e : Expr} {es : List Expr} {ta : TE} {t : TA} {apos pos : Pos} {pl : Sem Bool} (he : PE X o ta) (c : Cls X.K C) (hm : Meth X.K C m f)
    (F : FnOk X.prog X.w X.K X.mg X.base CX k f fd ps sp) (hr : Room k X.A) (hb : Binds X.K fd ps []) (hx : ∀ σ, PassesAt CX X σ (E σ)) (ha : PA X (e :: es) t)
    (hst : starEach (e :: es) X.env = (false, eval e X.env) :: starEach es X.env := by rfl) (hpl : (backTo pos (starEach es X.env)).any (·.1) = false := by rfl)
    (ht : eval (.Call (.Attribute o m apos) (e :: es) [] pos) X.env = (do
      let ov ← eval o X.env
      standAt apos.atName
      let (f, first) ← holding [ov] (getMethod ov m pl)
      callWith pos f first (backTo pos (starEach (e :: es) X.env)) (backToKw pos (keywordEach [] X.env))) := by rfl) :
    PE X (.Call (.Attribute o m apos) (e :: es) [] pos) (tMethE C m sp E ta t) := by
  refine ⟨fun pins s σ H Q I h => ?_⟩
  refine PySem.W.methodCall_KW (pl := pl) (thn (he.run pins s σ H _ I h) fun u s1 ⟨x, H1, I1, rx, a, dx, fs, ex, ea, l, q⟩ => ?_) ht
  subst ex
  obtain rfl : u = Value.ref a := rx
  refine getmeth_ok I1 ea c hm l ?_
  refine PySem.W.callWith_K (first := [.ref a]) (h₀ := X.base) I.ok.mod.kin hm.kp (thn (ha.run pos pins s1 σ H1 _ I1 q) fun us s2 ⟨vs, H2, I2, r, q2⟩ => ⟨I2.kIn, ?_⟩) hst hpl
  exact run_fnS (us := .ref a :: us) (vs := .ref a :: vs) F hr hb (hx σ) I2 (.cons rfl r) q2

/-! ### xs.count(b) of truths -/
theorem vals_bl_eq : ∀ {bs : List Bool} {us : List Value}, Vals (bs.map V.bl) us → us = bs.map Value.bool
  | [], _, .nil => rfl
  | b :: bs, _, .cons r t => by
    rw [vals_bl_eq t]
    cases r
    rfl
def rCntB (K : PySem.W.Frag) : V → List V → Hp → VK → Prop := fun x xs H Q => ∃ (p : Addr) (bs : List Bool) (k : Bool), x = .ref p ∧ xs = [.bl k] ∧ SqL K H p (bs.map V.bl) ∧ Q (.int (bs.count k : Nat)) H
theorem count_bl (k : Bool) : ∀ bs : List Bool, (bs.map Value.bool).countP (PyProof.Rows.isBoolOf k) = bs.count k
  | [] => rfl
  | b :: bs => by
    rw [List.map_cons, List.countP_cons, List.count_cons, count_bl k bs]
    rfl
theorem mt_bcount {X : Cx} : MtR X "list.count" (rCntB X.K) := by
  intro pins s σ H x xs v us Q I rx rxs h
  obtain ⟨p, bs, k, rfl, rfl, hs, q⟩ := h
  cases rx
  obtain ⟨u, rfl, ru⟩ := rxs.one
  cases ru
  obtain ⟨its, rv, ⟨⟨cls, dd, data, sl⟩, n, ho, hc, hdn, hd⟩, hlen⟩ := I.list hs
  simp only at hc hd
  subst hc hd
  have hi := vals_bl_eq rv
  subst hi
  refine call_meets PySem.F.slot_list_count ⟨_, ho, rfl⟩ PySem.F.entry_list_count (PySem.F.args_list_count_2 _ _)
    (SeqAt.list_countAt p (bs.map Value.bool).toArray n dd sl (.bool k) (PyProof.Rows.isBoolOf k)) ⟨ho, fun y hy => ?_, ?_⟩
  · obtain ⟨b, _, rfl⟩ := List.mem_map.mp (show y ∈ bs.map Value.bool by simpa using hy)
    exact SeqAt.EqAt.bool_bool b k
  · refine ⟨.int (bs.count k : Nat), H, I.tok _, ⟨s.toks, ?_⟩, q⟩
    show Value.int (((bs.map Value.bool).toArray.toList.countP (PyProof.Rows.isBoolOf k) : Nat) : Int) s.toks = Value.int ((bs.count k : Nat) : Int) s.toks
    rw [show (bs.map Value.bool).toArray.toList = bs.map Value.bool from rfl, count_bl]
end Rp
/-! rules for an except suite whose readings speak of the outer context -/
namespace Rp
open PySem PySem.Spec PyProof.Rows L2
theorem call_isS {X : Cx} {a : Addr} {oe : Obj} {cls : Value} {d : Option Addr} {pn : List (Addr × Obj)} (hz : Zc cls d oe) (hf : ∃ vs, oe.data = .fields vs) : CallR (X.suite a ((a, oe) :: pn)) (.builtin "isinstance") (rIsX X.K a cls d) :=
  call_isX (X := X.suite a ((a, oe) :: pn)) List.mem_cons_self hz hf
theorem ix_listS {X : Cx} {a : Addr} {pn : List (Addr × Obj)} : IxR (X.suite a pn) (rIxL X.K) := ix_list (X := X.suite a pn)
theorem pe_bmS {X : Cx} {a : Addr} {pn : List (Addr × Obj)} {T id : String} {name : Str} {r : V → List V → Hp → VK → Prop} {o e : Expr} {es : List Expr} {to : TE} {t : TA} {apos cpos : Pos} (pa : PlainAttrs T) (slot : Slot T name id) (hty : typeOf (.builtin id) = pure (.type "method_descriptor")) (hm : MtR (X.suite a pn) id r) (ho : PE (X.suite a pn) o to) (ha : PA (X.suite a pn) (e :: es) t)
    (hbase : attributeBase o name X.env (eval o X.env) = eval o X.env := by rfl)
    (hfew : ((backTo cpos (starEach (e :: es) X.env)).all (fun x => !x.1) && (backToKw cpos (keywordEach [] X.env)).all (fun x => x.1.isSome)
      && decide ((e :: es).length + ([] : List Keyword).length + (if ([] : List Keyword).isEmpty then 0 else 1) < 30)) = true := by rfl)
    (hline : (apos.endLine == cpos.line) = true := by rfl) (hs : starEach (e :: es) X.env = (false, eval e X.env) :: starEach es X.env := by rfl) (hplain : (backTo cpos (starEach es X.env)).any (·.1) = false := by rfl) :
    PE (X.suite a pn) (.Call (.Attribute o name apos) (e :: es) [] cpos) (tBM X.K T r to t) := pe_bm (X := X.suite a pn) pa slot hty hm ho ha hbase hfew hline hs hplain
end Rp
/-! repr of dicts, by the abstract heap: the dict is locked while its parts are told -/
namespace Rp
open PySem PySem.Spec PyProof.Rows L2
theorem pairs_at {P : Program} {w : World} : ∀ {es : List DictEntry} {vs : List (Key × Value)} {kvs : List (Key × V)}, Pairs (mixKind P w) es vs → KV kvs vs → ∀ (i : Nat) (e : DictEntry), es[i]? = some e → ∃ k v, kvs[i]? = some (k, v) ∧ RelV (kV k) e.key ∧ RelV v e.val := by
  intro es
  induction es with
  | nil => intro vs kvs _ _ i e h; cases h
  | cons x es ih =>
    intro vs kvs p r i e h
    cases p with
    | @cons _ kv _ vs' hk hv p' =>
      cases r with
      | @cons q _ qs _ h1 r' =>
        cases i with
        | zero =>
          cases h
          exact ⟨q.1, q.2, rfl, h1.1 ▸ relV_key hk, hv ▸ h1.2⟩
        | succ j =>
          exact ih p' r' j e h
section
variable {X : Cx} {n : Nat} {as : List Addr} {H : Hp} {a : Addr} {kvs : List (Key × V)} {ts : List Str} {base : Nat} {g : List Code} {A : Around} {pins : List (Addr × Obj)} {σ : L2.St}
/-- what is told of the parts, the dict locked -/
def Parts (X : Cx) (n : Nat) (as : List Addr) (H : Hp) (kvs : List (Key × V)) (ts : List Str) : Prop := ts.length = kvs.length ∧ ∀ (i : Nat) (k : Key) (v : V), kvs[i]? = some (k, v) → ∃ t1 t2 : Str, ts[i]? = some (t1 ++ ": " ++ t2) ∧ Says X n as H (kV k) t1 ∧ Says X n as H v t2
theorem dict_body {id : String} {rest : List Value} {od : Obj} (lo : Low X (n + 1) g A) (hcl : ∀ b ∈ a :: as, Clear g b) (hna : a ∉ as) (hp : Parts X n as H kvs ts)
    (hsz : base + (dictText ts).length ≤ sizeLine) (hq : H a = some (.frz od (.dK kvs))) {s : Shared} {H1 : Hp} (I : Inv X pins σ H1 s) (hs : Same H H1) {R : Result → Shared → Prop}
    (hg : (Code.builtin id ⟨.ref a :: rest, []⟩).guards = [Code.builtin id ⟨.ref a :: rest, []⟩]) (hw : (Code.builtin id ⟨.ref a :: rest, []⟩).weight = 1) (hu : (Code.builtin id ⟨.ref a :: rest, []⟩).cUnits = 1) (he : (Code.builtin id ⟨.ref a :: rest, []⟩).envs = [])
    (fin : ∀ s H2 u, Inv X pins σ H2 s → Same H1 H2 → R (.ok (.ret (.str (dictText ts) u))) s) (bad : ∀ e s, X.xe e s → R (.error e) s) :
    wpOwn (model X.prog X.w) A (.builtin id ⟨.ref a :: rest, []⟩) (Builtin.dictReprAt base ⟨[.ref a], []⟩) (fun fin s' => match fin with | .done f => R (.ok f) s' | .again c' => c'.quiet = true ∧ codeAny (model X.prog X.w) A c' R s') (fun e s' => R (.error e) s') s := by
  obtain ⟨hl, hit⟩ := hp
  obtain ⟨sys, ho, hx, es, ep, vs, hd, len, kv, _, es2, ho2, _, hd2, _, pr, _⟩ := I.frzK (hs _ _ hq)
  cases ho.symm.trans ho2
  cases hd.symm.trans hd2
  have ent := pairs_at pr kv
  have still : ∀ {H2 : Hp} {s2 : Shared}, Inv X pins σ H2 s2 → Same H1 H2 → s2.heap.get? a = some od := fun {H2 s2} I2 e2 => (I2.frzK (e2 _ _ (hs _ _ hq))).2.1
  have ty : s.TypeIs (.ref a) "dict" := ⟨od, ho, hx.1⟩
  have big := piled_le_dictText ts
  have small : (dictText ts).length ≤ sizeLine := by omega
  have lts : ts.length = es.size := by omega
  unfold Builtin.dictReprAt Builtin.Dict.dictSlotNone
  refine wpOwn_bind (wpOwn_of_wpAny (wpAny_bind (wpAny_notOrdered_dict ty ?_)))
  show wpAny (model X.prog X.w) _ (pure (Value.ref a)) _ _ s
  refine wpAny_pure ?_
  rw [dictReprRunning_eq]
  refine wpOwn_bind (wpOwn_stackTailAny lo.gd (dictGuardF_off _) (dictGuardF_pos _) ?_)
  have none_ : (g.any fun c => dictGuardF (.ref a) (c, default)) = false := List.any_eq_false.mpr fun c hc => by
    rw [dictGuardF_of_clear (hcl a List.mem_cons_self) c hc]
    exact Bool.false_ne_true
  rw [none_]
  refine wpOwn_of_wpAny ?_
  have lo2 := lo.guard hg hw hu he
  have cl2 : ∀ b ∈ as, Clear (Code.builtin id ⟨.ref a :: rest, []⟩ :: g) b := fun b hb => (hcl b (List.mem_cons_of_mem _ hb)).cons (a := a) fun e => hna (e ▸ hb)
  show wpAny (model X.prog X.w) _ (Builtin.Dict.addrOf (.ref a) >>= _) _ _ s
  refine wpAny_bind (wpAny_pure ?_)
  show wpAny (model X.prog X.w) _ (Builtin.Dict.showsAll a >>= _) _ _ s
  unfold Builtin.Dict.showsAll
  rw [sys]
  refine wpAny_bind (wpAny_pure (wpAny_bind (wpAny_dictEpoch ho hd (wpAny_bind (wpAny_dictEntries ho hd (wpAny_bind ?_))))))
  rw [Std.Legacy.Range.forIn_eq_forIn_range']
  simp only [Std.Legacy.Range.size, Nat.sub_zero, Nat.add_sub_cancel, Nat.div_one]
  refine wpAny_mono (E := X.xe) (wpAny_forIn_list _ (fun l r s2 => ∃ i H2, l = List.range' i (es.size - i) ∧ i ≤ es.size ∧ r = (⟨(ts.take i).toArray, base + piled (ts.take i)⟩ : (Array Str × Nat)) ∧ Inv X pins σ H2 s2 ∧ Same H1 H2)
    (fun r s2 => ∃ H2, r = (⟨ts.toArray, base + piled ts⟩ : (Array Str × Nat)) ∧ Inv X pins σ H2 s2 ∧ Same H1 H2) ?_ ?_ _ _ ⟨0, H1, by simp, Nat.zero_le _, by simp [piled], I, Same.refl _⟩) (fun r s2 k => ?_) fun e s2 k => bad e s2 k
  · rintro x l _ s2 ⟨i, H2, hr, hi, rfl, I2, e2⟩
    have lt : i < es.size := by
      rcases Nat.lt_or_ge i es.size with z | z
      · exact z
      · rw [Nat.sub_eq_zero_of_le z] at hr; cases hr
    have step : es.size - i = (es.size - (i + 1)) + 1 := by omega
    rw [step, List.range'_succ] at hr
    injection hr with h1 h2
    subst h1 h2
    have ge : es.toList[x]? = some es[x] := by simp [lt]
    obtain ⟨k, v, gk, rk, rv⟩ := ent x _ ge
    obtain ⟨t1, t2, gt, sk, sv⟩ := hit x k v gk
    have l3 : (t1 ++ ": " ++ t2 : Str).length = t1.length + 2 + t2.length := by rw [strLen_append, strLen_append]; rfl
    have p1 := piled_take_succ gt
    have p2 := piled_take_le ts (x + 1)
    rw [l3] at p1
    refine wpAny_bind (wpAny_dictEntries (still I2 e2) hd ?_)
    rw [Array.getElem?_eq_getElem lt]
    refine wpAny_bind (wpAny_holding (wpAny_bind (wpAny_mono (sk.und _ _ (base + piled (ts.take x) + 1) pins s2 σ H2 _ lo2 cl2 I2 (hs.trans e2) rk (by omega)) (fun r3 s3 k3 => ?_) fun _ _ q => q)))
    obtain ⟨rfl, H3, I3, e3⟩ := k3
    refine wpAny_bind (wpAny_mono (sv.und _ _ (base + piled (ts.take x) + (r3.length + 3)) pins s3 σ H3 _ lo2 cl2 I3 (hs.trans (e2.trans e3)) rv (by omega)) (fun r4 s4 k4 => ?_) fun _ _ q => q)
    obtain ⟨rfl, H4, I4, e4⟩ := k4
    have e5 := e2.trans (e3.trans e4)
    refine wpAny_pure (wpAny_bind (wpAny_dictEpoch (still I4 e5) hd ?_))
    rw [if_neg (by simp)]
    refine wpAny_pure ⟨x + 1, H4, rfl, lt, ?_, I4, e5⟩
    have q1 : (ts.take x).toArray.push (r3 ++ ": " ++ r4) = (ts.take (x + 1)).toArray := by simp [List.take_add_one, gt]
    have q2 : base + piled (ts.take x) + (r3.length + r4.length + 4) = base + piled (ts.take (x + 1)) := by omega
    rw [q1, q2]
  · rintro r s2 ⟨i, H2, hr, hi, rfl, I2, e2⟩
    have ei : i = ts.length := by
      rcases Nat.lt_or_ge i es.size with z | z
      · have step : es.size - i = (es.size - (i + 1)) + 1 := by omega
        rw [step, List.range'_succ] at hr; cases hr
      · omega
    rw [ei, List.take_length]
    exact ⟨H2, rfl, I2, e2⟩
  · obtain ⟨H2, rfl, I2, e2⟩ := k
    refine wpAny_bind (wpAny_mkStr (wpAny_pure ?_) (by simpa [dictText] using small))
    have q := fin _ H2 s2.toks (I2.tok (s2.toks + 1)) e2
    simpa [dictText] using q
theorem same_over {H1 : Hp} {u : HO} (e : Same H H1) : Same (upd H a u) (upd H1 a u) := fun y o h => by
  by_cases z : y = a
  · rw [z, upd_same] at h ⊢
    exact h
  · rw [upd_ne z] at h ⊢
    exact e _ _ h
theorem says_dict (hq : H a = some (.dK kvs)) (hna : a ∉ as) (hp : ∀ od, Parts X n as (upd H a (.frz od (.dK kvs))) kvs ts) : Says X (n + 2) (a :: as) H (.ref a) (dictText ts) := by
  have mu : Mut (some (.dK kvs)) := trivial
  have open_ : ∀ {H1 H2 : Hp} {od : Obj}, Same H H1 → Same (upd H1 a (.frz od (.dK kvs))) H2 → Same H1 (upd H2 a (.dK kvs)) := fun {H1 H2 od} e e2 y o h => by
    by_cases z : y = a
    · rw [z, e _ _ hq] at h
      rw [z, upd_same]
      exact h
    · rw [upd_ne z]
      exact e2 _ _ (by rw [upd_ne z]; exact h)
  refine ⟨fun A g base pins s σ H1 u lo cl I hs ru hz => ?_, fun A g pins s σ H1 u lo cl I hs ru hz => ?_⟩
  all_goals
    cases ru
    have h1 := hs _ _ hq
    have hn := I.nofrz h1 mu
    obtain ⟨od, IL⟩ := I.lock h1 mu
    obtain ⟨_, ho, hx, _⟩ := IL.frzK upd_same
    have ps : Parts X n as (upd H1 a (.frz od (.dK kvs))) kvs ts := ⟨(hp od).1, fun i k v hv => let ⟨t1, t2, a1, a2, a3⟩ := (hp od).2 i k v hv; ⟨t1, t2, a1, a2.grow (same_over hs), a3.grow (same_over hs)⟩⟩
  · refine wpAny_pyReprUnder_ref (by omega) (wpAny_pyReprObjUnder_twin (twin := "dict.__repr__.under") ⟨od, ho, hx.1⟩ PySem.F.slot_dict_repr rfl lo.rm.units0
      (call_twin_own (PySem.F.quiet_dict_repr_under _) PySem.F.entry_dict_repr_under PySem.F.check_dict_repr_under ⟨od, ho, hx.1⟩ PySem.F.slot_dict_repr (PySem.F.args_dict_repr_1 _)
        (dict_body (R := callEnd _ _) (lo.mono (by omega)) cl hna ps hz upd_same IL (Same.refl _) (by show (if Code.isGuard _ then _ else _) = _; rw [isGuard_dict_repr_under]; rfl) (by simp only [Code.weight, isGuard_dict_repr_under]; rfl) (by rfl) (by first | rfl | simp [Code.envs, Code.isFrame])
          (fun s2 H2 tk I2 e2 => ⟨⟨_, _, rfl⟩, _, _, rfl, rfl, _, I2.unlock (e2 _ _ upd_same) hn, open_ hs e2⟩) fun e s2 he => he)))
  · have h2 := lo.rm.units
    refine call_repr_slot (by omega) ⟨od, ho, hx.1⟩ PySem.F.slot_dict_repr (wpAny_call (codeAny_call_builtin_own (Code.quiet_builtin _ (by decide +kernel)) PySem.F.entry_dict_repr (PySem.F.slot_dict_repr.check _ _ _ _ _ _ _ _ ⟨od, ho, hx.1⟩ (PySem.F.args_dict_repr_1 _)
      (dict_body (A := A.in1) (base := 0) (R := callEnd _ _) lo.in1 cl hna ps (by omega) upd_same IL (Same.refl _) (by show (if Code.isGuard _ then _ else _) = _; rw [isGuard_dict_repr]; rfl) (by simp only [Code.weight, isGuard_dict_repr]; rfl) (by rfl) (by first | rfl | simp [Code.envs, Code.isFrame])
        (fun s2 H2 tk I2 e2 => ⟨_, _, rfl, ⟨_, rfl⟩, _, I2.unlock (e2 _ _ upd_same) hn, open_ hs e2⟩) fun e s2 he => he))))
end
end Rp
/-! several except clauses that each keep the exception by a name; nothing else comes out of the body -/
namespace Rp
open PySem PySem.Spec PyProof.Rows L2
/-- the wish of the clauses, made one by one of the wish of a single one -/
inductive Named (X : Cx) : List ExceptHandler → (Ends → WX) → Prop
  | none : Named X [] (fun _ _ _ _ _ => False)
  | more {x n : Str} {c : Value} {i : Nat} {ts : Addr → Value → Option Addr → TS} {st : Stmt} {suite : List Stmt} {np p : Pos} {hds : List ExceptHandler} {f : Ends → WX} (hi : X.N[i]? = some n) (hl : X.env.kindOf n = some .local) (hc : Names X x c)
      (hsu : ∀ (a : Addr) (oe : Obj) (cls : Value) (d : Option Addr) (pn : List (Addr × Obj)), Zc cls d oe → (∃ vs, oe.data = .fields vs) → PSs (X.suite a ((a, oe) :: pn)) (st :: suite) (ts a cls d)) (r : Named X hds f) :
      Named X (.ExceptHandler (some (.Name x np)) (some n) (st :: suite) p :: hds) (fun D => wAs X.K c i ts (f D) D)
/-- no frame is a record -/
theorem no_frame {h B : Heap} {l : List Env} {a : Addr} {o : Obj} {vs : Array Value} (ff : h.FunFrames B l) (ha : h.get? a = some o) (hd : o.data = .fields vs) : a ∉ frs l := by
  intro z
  have ⟨_, o2, g2, nf⟩ := ff.mem z
  cases ha.symm.trans g2
  exact nf _ hd
section
variable {X : Cx} {hds : List ExceptHandler} {f : Ends → WX} {D : Ends} {pins : List (Addr × Obj)} {σ : L2.St} {H : Hp} {a : Addr} {B : Heap} {cls : Value} {d : Option Addr} {s0 s : Shared}
theorem clauses (hh : Named X hds f) (hf : X.env.frame = some X.env.locals) (hN : X.N.Nodup) (I : Inv X pins σ H s0) (ok : X.Ok) (nb : ∀ b o, s0.heap.get? b = some o → b ∉ frs X.stack → B.get? b = some o) (hs : X.stack = X.env :: X.outer)
    (fl : HandSPX.FlyingZ B (X.env :: X.outer) a (Zc cls d) s.heap) (up : s0.heap.UpToSlots s.heap) (na : H a = none) (os : s.os = s0.os) (ag : AllBare s.gens) (w : f D cls d σ H) :
    wpAny (model X.prog X.w) X.A (handleBy (.ref a) X.env hds) (SP X pins D) X.xe s := by
  induction hh with
  | none => exact w.elim
  | @more x n c i ts st suite np p rest g hi hl hc hsu r ih =>
    have ⟨b, eb, yes, no⟩ := w
    have fine : ∀ {h : Heap}, HandSPX.FlyingZ B (X.env :: X.outer) a (Zc cls d) h → s0.heap.UpToSlots h → ∃ oe, h.get? a = some oe ∧ Zc cls d oe ∧ (∃ vs, oe.data = .fields vs) ∧ Inv (X.suite a ((a, oe) :: (X.pn ++ pins))) [] σ H { s with heap := h } := by
      intro h F U
      obtain ⟨oe, vs, ge, ze, de⟩ := F.there
      have out := no_frame F.2.2.1 ge de
      have at_ : ∀ e ∈ X.env :: X.outer, ∀ q, e.frame = some q → a ≠ q := fun e he q hq z => out (List.mem_filterMap.mpr ⟨e, he, by rw [hq, z]⟩)
      refine ⟨oe, ge, ze, ⟨vs, de⟩, (I.landed (s' := { s with heap := h }) nb F.1 U os ag).suite ge de na (at_ _ List.mem_cons_self _ hf) fun hm => ?_⟩
      obtain ⟨e, he, q⟩ := List.mem_filterMap.mp hm
      exact at_ e (List.mem_cons_of_mem _ he) _ q rfl
    obtain ⟨oe, ge, ze, _, S⟩ := fine fl up
    refine wpAny_handleBy_cons (codeAny_handlers_test ?_) (fun z => by cases z)
    have kind : PySem.W.Looks (model X.prog X.w) s.heap (typeOf (.ref a)) cls := fun A Q E s' k q => wpAny_typeOf_ref (k _ _ ge) (ze.1.symm ▸ q)
    have look := PySem.W.exm_one (M := model X.prog X.w) S.kIn kind eb
    have name : ∀ {Q E : Value → Shared → Prop}, Q c s → wpAny (model X.prog X.w) (X.A.mark (some (.ref a))) (eval (.Name x np) X.env) Q E s := by
      intro Q E q
      rcases hc with ⟨g1, g2, g3 | ⟨g3, g4, g5⟩⟩
      · exact ld_glob (X := X.suite a ((a, oe) :: (X.pn ++ pins))) S g1 g3 q g2
      · exact ld_blt (X := X.suite a ((a, oe) :: (X.pn ++ pins))) S g1 g3 g4 q g5 g2
    refine name (look.here ?_)
    cases b
    · show wpAny (model X.prog X.w) X.A (handleBy (.ref a) X.env rest) (SP X pins D) X.xe s
      exact ih (no rfl)
    · refine codeAny_handlers_suite_as (HandSPX.lands_againZ fl fun h2 fl2 up2 => ?_)
      obtain ⟨o2, g2, z2, f2, S2⟩ := fine fl2 (up.trans up2)
      refine store_ok (X := X.suite a ((a, o2) :: (X.pn ++ pins))) (v := .ref a) S2 hN hi (.inl hl) rfl (fun s3 S3 => ?_) (.inr hl)
      refine wpAny_mono ((hsu a o2 cls d _ z2 f2).run [] s3 _ H _ S3 (yes rfl a na)) (fun fw s4 k => ?_) (fun _ _ z => False.elim z)
      have bye : ∀ {σ4 : L2.St} {H4 : Hp} {Q : Shared → Prop}, Inv (X.suite a ((a, o2) :: (X.pn ++ pins))) [] σ4 H4 s4 → (∀ s5, Inv X pins (σ4.set i none) H4 s5 → Q s5) →
          wpAny (model X.prog X.w) X.A (do bindName X.env n .none; unbindBehindTheSuite X.env n p) (fun _ s5 => Q s5) X.xe s4 := fun S4 hq => gone_ok (S4.unsuite ok) hN hi hl hq
      rcases fw with _ | u | _ | _
      · have ⟨σ4, H4, S4, q4⟩ := k
        exact bye S4 fun _ J => ⟨_, _, J, q4⟩
      · first
          | (have ⟨v, σ4, H4, S4, r4, q4⟩ := k; exact bye S4 fun _ J => ⟨_, _, _, J, r4, q4⟩)
          | (have ⟨σ4, H4, S4, q4⟩ := k; exact bye S4 fun _ J => ⟨_, _, J, q4⟩)
      all_goals
        first
          | (have ⟨σ4, H4, S4, q4⟩ := k; exact bye S4 fun _ J => ⟨_, _, J, q4⟩)
          | (have ⟨v, σ4, H4, S4, r4, q4⟩ := k; exact bye S4 fun _ J => ⟨_, _, _, J, r4, q4⟩)
theorem ps_try_named {body : List Stmt} {h₀ : ExceptHandler} {pos : Pos} {tb : WX → TS} (hs : X.stack = X.env :: X.outer) (hf : X.env.frame = some X.env.locals) (hN : X.N.Nodup)
    (hb : ∀ (W : WX) (pn : List (Addr × Obj)) (xe : Value → Shared → Prop), Takes (X.tr pn xe) W → PassesOwn (model X.prog X.w) X.A X.env xe → PSs (X.tr pn xe) body (tb W)) (hh : Named X (h₀ :: hds) f) :
    PS X (.Try body (h₀ :: hds) [] [] pos) (fun D σ H => tb (f D) D σ H) := by
  refine ⟨fun pins s σ H D I h => wpAny_Try_except ?_⟩
  have ok := I.ok
  refine wpAny_mono ((hb (f D) (X.pn ++ pins) _ (fun u s' z => ?_) PassesOwn.looking).run [] s σ H D (I.toTry _) h) (fun fw s1 k => ?_) fun _ _ q => q
  · obtain ⟨a, B, s0, pins', σ', H', cls, d, rfl, J, nb, up, sky, na, os, ag, w⟩ := z
    have J := J.ofTry ok
    have sky2 : Sky B (X.env :: X.outer) a (Zc cls d) X.env.locals s'.heap := hs ▸ sky
    exact sky2.land Zc.steady (ok.frames.trans (congrArg some hs)) hf fun h2 fl up2 => clauses (s := { s' with heap := h2 }) hh hf hN J ok nb hs fl (up.trans up2) na os ag w
  · rcases fw with _ | u | _ | _
    · have ⟨σ', H', J, q⟩ := k
      exact wpAny_execs_nil ⟨σ', H', J.ofTry ok, q⟩
    all_goals
      first
        | (have ⟨σ', H', J, q⟩ := k; exact ⟨σ', H', J.ofTry ok, q⟩)
        | (have ⟨v, σ', H', J, r, q⟩ := k; exact ⟨v, σ', H', J.ofTry ok, r, q⟩)
end
end Rp
/-! an instance whose __init__ may raise, within a try -/
namespace Rp
open PySem PySem.Spec PyProof.Rows L2
section
variable {X : Cx} {CX : CXT} {k : Nat} {f C : Addr} {fd : FuncData} {ps : List Str} {sp : Sp} {E : L2.St → XK} {x : Str} {p pos : Pos} {e : Expr} {es : List Expr} {t : TA}
theorem made_here {pins : List (Addr × Obj)} {σ : L2.St} {H : Hp} {s : Shared} {Q : VK} {us : List Value} {vs : List V} (M : Mk X.K C f) (F : FnOk X.prog X.w X.K X.mg X.base CX k f fd ps sp) (hr : Room (k + 1) X.A) (hb : Binds X.K fd ps []) (hx : PassesAt CX X σ (E σ))
    (I : Inv X pins σ H s) (r : Vals vs us) (h : ∀ x dx, H x = none → H dx = none → dx ≠ x → sp (.ref x :: vs) (upd (upd H dx (.own x)) x (.ins C dx [])) (fun v H2 => v = .non ∧ Q (.ref x) H2) (E σ)) :
    wpAny (model X.prog X.w) X.A (call (.ref C) us) (EP X pins σ Q) X.xe s := by
  have I' := Inv.made (C := C) I
  have rs : Vals (V.ref (s.heap.objs.size + 1) :: vs) (Value.ref (s.heap.objs.size + 1) :: us) := .cons rfl r
  have hsp := h (s.heap.objs.size + 1) s.heap.objs.size (I.hok.fresh (Nat.le_add_right _ _)) (I.hok.fresh (Nat.le_refl _)) (Nat.ne_of_lt (Nat.lt_succ_self _))
  have many : (Value.ref (s.heap.objs.size + 1) :: us).length = ps.length := rs.length ▸ F.len _ _ _ _ hsp
  have bt := hb _ _ I'.kIn (by rw [List.append_nil]; exact many)
  rw [List.append_nil] at bt
  refine wpAny_call (make_map (f := f) I.kIn M.makes M.init (beq_iff_eq.mp M.fn) (codeAny_mono (F.run _ X.stack _ _ _ _ _ _ (E σ) (hr.make C us []) (I'.env0.make C us []) bt rs hsp) fun out s2 k2 => ?_))
  rcases out with er | fl
  rotate_left
  · cases fl with
    | ret u =>
      obtain ⟨v, H2, I2, rv, rfl, q⟩ := I'.after k2
      exact ⟨rv, V.ref (s.heap.objs.size + 1), H2, I2, rfl, q⟩
    | next => exact k2.elim
    | brk => exact k2.elim
    | cont => exact k2.elim
  · exact hx pins _ _ er s2 I' k2
def tMakeS (C : Addr) (sp : Sp) (E : L2.St → XK) (t : TA) : TE := fun σ H Q => t σ H fun vs H1 => ∀ x dx, H1 x = none → H1 dx = none → dx ≠ x →
  sp (.ref x :: vs) (upd (upd H1 dx (.own x)) x (.ins C dx [])) (fun v H2 => v = .non ∧ Q (.ref x) H2) (E σ)
theorem pe_makeS (M : Mk X.K C f) (F : FnOk X.prog X.w X.K X.mg X.base CX k f fd ps sp) (hr : Room (k + 1) X.A) (hg : Gl X x) (hm : X.mg x = some (.ref C)) (hb : Binds X.K fd ps []) (hx : ∀ σ, PassesAt CX X σ (E σ))
    (ha : PA X (e :: es) t) (hdb : (x == ("__debug__" : Str)) = false := by decide) (he : starEach (e :: es) X.env = (false, eval e X.env) :: starEach es X.env := by rfl) (hpl : (backTo pos (starEach es X.env)).any (·.1) = false := by rfl) :
    PE X (.Call (.Name x p) (e :: es) [] pos) (tMakeS C sp E t) :=
  ⟨fun pins s σ H Q I h => wpAny_Call_Name_kw (ld_glob I hg hm (PySem.W.callWith_K (h₀ := X.base) I.ok.mod.kin M.kp (thn (ha.run pos pins s σ H _ I h) fun us s1 ⟨vs, H1, I1, r, q⟩ => ⟨I1.kIn, made_here M F hr hb (hx σ) I1 r q⟩) he hpl) hdb)⟩
end
end Rp
/-! == and != by an own __eq__ that may answer either way -/
namespace Rp
open PySem PySem.Spec PyProof.Rows L2
section
variable {prog : Program} {w : World} {A : Around} {E : Value → Shared → Prop} {s : Shared} {K : PySem.W.Frag} {x C L f : Addr} {h₀ : Heap} {m : Str → Option Value} {ox : Obj} {od : Option Obj} {b tb : Value}
open PySem.W in
/-- x != b where the class says only what == is -/
theorem ne_K {Q : Value → Shared → Prop} (hu : A.units + 1 < cLine) (FR : Fr h₀ L s.heap m) (X₀ : K.In h₀) (I : InstAt s.heap x ox C od) (hb : Looks (model prog w) s.heap (typeOf b) tb) (hn : notFirst K C tb = true)
    (hne : findIn K (.ref C) "__ne__" = some (some (.builtin "object.__ne__"))) (hm : mroIn K C (.type "object") = some true)
    (hs : findIn K (.ref C) "__eq__" = some (some (.ref f))) (hf : isFn K (.ref f) = true)
    (h : wpAny (model prog w) A.in1 (call (.ref f) [.ref x, b]) (fun v s' => ∃ r, v = .bool r ∧ Q (.bool (!r)) s') E s) : wpAny (model prog w) A (richCompare .NotEq (.ref x) b) Q E s := by
  have X := X₀.keeps FR.keep
  have hu1 : A.in1.units < cLine := hu
  have sub : Looks (model prog w) s.heap (isInstance (.ref x) (.type "object")) true := I.type.andThen (looks_mroIn X hm)
  have S := PySem.F.cmp_object.ne
  have one : wpAny (model prog w) A (tryCompare (.ref x) "__ne__" b) (fun r s' => ∃ v, r = some v ∧ Q v s') E s := by
    unfold tryCompare
    have body : wpAny (model prog w) A (call (.builtin "object.__ne__") [.ref x, b]) (fun v s' => ∃ r, v = .bool r ∧ Q (.bool r) s') E s := by
      obtain ⟨hp, g, d, t, os⟩ := s
      refine wpAny_call (codeAny_call_builtin S.plain PySem.F.cmpEntry_ne (@check_slot (model prog w) _ _ ⟨hp, g, d, t, os⟩ "object.__ne__" "object" "__ne__" (.ref x) [b] [] _ PySem.F.cmpKind_ne PySem.F.cmpSplit_ne sub (PySem.F.cmpArgs_ne _ _) ?_))
      unfold Builtin.«object.__ne__»
      refine wpAny_bind (wpAny_of_eq (a := ((Value.ref x : Value), [b])) (by first | rfl | (simp only [Builtin.slotArgs]; rfl)) ?_)
      refine wpAny_bind (wpAny_cRoomFor hu1 ?_)
      refine wpAny_bind (ifBound_K X I hs hf (wpAny_mono h (fun v s' hv => ?_) fun _ _ e => e))
      obtain ⟨r, rfl, q⟩ := hv
      exact wpAny_bind (wpAny_truthy_bool (wpAny_pure ⟨!r, rfl, q⟩))
    have bound : wpAny (model prog w) A (callSpecialIfBound? (.ref x) "__ne__" [b]) (fun o s' => ∃ r, o = some (.bool r) ∧ Q (.bool r) s') E s := by
      simp only [callSpecialIfBound?, bindSpecialIfBound?]
      refine wpAny_holding (wpAny_bind (wpAny_bind (wpAny_bind (I.type.here ((looks_findIn X hne).here ?_)))))
      simp only [S.bind]
      refine wpAny_bind (wpAny_askSetting (wpAny_ite ?_))
      have fin : wpAny (model prog w) A (call (.builtin "object.__ne__") ([.ref x] ++ [b]) >>= fun v => pure (some v)) (fun o s' => ∃ r, o = some (.bool r) ∧ Q (.bool r) s') E s :=
        wpAny_bind (wpAny_mono body (fun v s' h' => by
          obtain ⟨r, rfl, q⟩ := h'
          exact wpAny_pure ⟨r, rfl, q⟩) fun _ _ h' => h')
      split
      · exact wpAny_bind (wpAny_pure (wpAny_pure fin))
      · exact wpAny_tryCatch (wpAny_bind (wpAny_pure (wpAny_pure fin)))
    refine wpAny_bind (wpAny_mono bound (fun v s' hv => ?_) fun _ _ e => e)
    obtain ⟨r, rfl, q⟩ := hv
    exact wpAny_pure ⟨_, rfl, q⟩
  unfold richCompare
  simp only [oneThing_ref]
  refine wpAny_holding (wpAny_bind (wpAny_cRoomFor (Nat.lt_of_succ_lt hu) ?_))
  refine wpAny_bind (I.type.here (wpAny_bind (hb.here ?_)))
  split
  · rename_i q
    have e : subIn K tb (.ref C) = some false := by
      rcases Bool.or_eq_true_iff.mp hn with e | e
      · rw [beq_iff_eq.mp e] at q; simp at q
      · exact beq_iff_eq.mp e
    refine wpAny_bind ((looks_subIn X e).here ?_)
    simp only [Bool.false_eq_true, if_false]
    refine wpAny_bind (wpAny_mono one (fun r s' z => ?_) fun _ _ e => e)
    obtain ⟨v, rfl, hq⟩ := z
    exact wpAny_pure hq
  · refine wpAny_bind (wpAny_pure ?_)
    simp only [Bool.false_eq_true, if_false]
    refine wpAny_bind (wpAny_mono one (fun r s' z => ?_) fun _ _ e => e)
    obtain ⟨v, rfl, hq⟩ := z
    exact wpAny_pure hq
end
/-- what a class with an own == and no own != says -/
structure OwnE (K : PySem.W.Frag) (C f : Addr) : Prop where
  eq : PySem.W.findIn K (.ref C) "__eq__" = some (some (.ref f))
  fn : PySem.W.isFn K (.ref f) = true
  ne : PySem.W.findIn K (.ref C) "__ne__" = some (some (.builtin "object.__ne__"))
  mro : PySem.W.mroIn K C (.type "object") = some true
section
variable {X : Cx} {C f : Addr} {fd : FuncData} {ps : List Str} {sp : Sp} {n : Nat} {E : XK} {CX : CXT}
/-- x == y, x != y: x of the class, y of any type -/
def rOwn (K : PySem.W.Frag) (C : Addr) (sp : Sp) (E : XK) (g : Bool → Bool) : R2 := fun x y H Q => ∃ a dx fs tb, x = .ref a ∧ H a = some (.ins C dx fs) ∧ TyX K H y tb ∧ PySem.W.notFirst K C tb = true ∧ sp [x, y] H (fun v H' => ∃ r, v = .bl r ∧ Q (.bl (g r)) H') E
theorem own_callee {A : Around} {pins : List (Addr × Obj)} {σ : L2.St} {H : Hp} {s : Shared} {x y : V} {u v : Value} {Q : Bool → Hp → Prop} (F : FnOk X.prog X.w X.K X.mg X.base CX n f fd ps sp) (hb : Binds X.K fd ps []) (hx : Passes CX X E) (hr : Room n A) (hfr : A.frames = X.A.frames)
    (I : Inv X pins σ H s) (rx : RelV x u) (ry : RelV y v) (hsp : sp [x, y] H (fun v H' => ∃ r, v = .bl r ∧ Q r H') E) :
    wpAny (model X.prog X.w) A (call (.ref f) [u, v]) (fun v s' => ∃ r, v = .bool r ∧ ∃ H', Inv X pins σ H' s' ∧ Q r H') X.xe s := by
  have e0 : Env0 X.prog X.w X.K X.mg X.base A X.stack s H := by
    have e := I.env0
    exact ⟨by rw [hfr]; exact e.frames, e.mod, e.bs, e.bsz, e.funs, e.frf, e.hok, e.bare⟩
  have hl := F.len _ _ _ _ hsp
  have r2 : Vals [x, y] [u, v] := .cons rx (.cons ry .nil)
  refine wpAny_call (codeAny_mono (F.run A X.stack s H ⟨[u, v], []⟩ [u, v] [x, y] _ E hr e0 (by
    have := hb s [u, v] I.kIn (by simpa using hl)
    simpa using this) r2 hsp) fun r s' hq => ?_)
  match r, hq with
  | .error e, hq => exact hx pins σ H s e s' I hq
  | .ok (.ret w), hq =>
    obtain ⟨z, H', I', rz, b, ez, q⟩ := I.after hq
    subst ez
    cases rz
    exact ⟨b, rfl, H', I', q⟩
theorem op_eqOwn (F : FnOk X.prog X.w X.K X.mg X.base CX n f fd ps sp) (O : OwnE X.K C f) (hb : Binds X.K fd ps []) (hx : Passes CX X E) (hr : Room n X.A) : OpR X (compareOp .Eq) (rOwn X.K C sp E id) := by
  intro pins s σ H x y u v Q I rx ry hq
  obtain ⟨a, dx, fs, tb, rfl, ha, ty, nf, hsp⟩ := hq
  show wpAny (model X.prog X.w) X.A (richCompare .Eq u v) (EP X pins σ Q) X.xe s
  obtain ⟨P, Z, p, hv⟩ := kit_of I ry ty
  have hu : u = .ref a := rx
  subst hu
  obtain ⟨mA, J, _⟩ := ins_get I.hok ha
  obtain ⟨od, J, _⟩ := J.look
  obtain ⟨m, hF⟩ := I.fr
  refine PySem.W.cmp_K (op := .Eq) hr.units0 hF I.ok.mod.kin J (Z.ty _ _ I.kIn p) nf O.eq O.fn ?_
  refine wpAny_mono (own_callee (Q := fun r H' => Q (.bl r) H') F hb hx hr rfl I rx ry hsp) (fun w s' k => ?_) fun _ _ k => k
  obtain ⟨r, rfl, H', I', q⟩ := k
  exact ⟨.bl r, H', I', rfl, q⟩
theorem op_neOwn (F : FnOk X.prog X.w X.K X.mg X.base CX n f fd ps sp) (O : OwnE X.K C f) (hb : Binds X.K fd ps []) (hx : Passes CX X E) (hr : Room (n + 1) X.A) : OpR X (compareOp .NotEq) (rOwn X.K C sp E not) := by
  intro pins s σ H x y u v Q I rx ry hq
  obtain ⟨a, dx, fs, tb, rfl, ha, ty, nf, hsp⟩ := hq
  show wpAny (model X.prog X.w) X.A (richCompare .NotEq u v) (EP X pins σ Q) X.xe s
  obtain ⟨P, Z, p, hv⟩ := kit_of I ry ty
  have hu : u = .ref a := rx
  subst hu
  obtain ⟨mA, J, _⟩ := ins_get I.hok ha
  obtain ⟨od, J, _⟩ := J.look
  obtain ⟨m, hF⟩ := I.fr
  refine ne_K (by have := hr.un; omega) hF I.ok.mod.kin J (Z.ty _ _ I.kIn p) nf O.ne O.mro O.eq O.fn ?_
  refine wpAny_mono (own_callee (Q := fun r H' => Q (.bl (!r)) H') F hb hx hr.in1 rfl I rx ry hsp) (fun w s' k => ?_) fun _ _ k => k
  obtain ⟨r, rfl, H', I', q⟩ := k
  exact ⟨r, rfl, .bl !r, H', I', rfl, q⟩
end
end Rp
/-! str of an own instance; a comprehension over a text; repr of a number whatever runs; figures -/
namespace Rp
open PySem PySem.Spec PyProof.Rows L2
section
variable {X : Cx} {C f : Addr} {fd : FuncData} {ps : List Str} {sp : Sp} {n : Nat} {E : XK} {CX : CXT}
/-- a def of one argument, called from within a builtin -/
theorem callee1 {A : Around} {pins : List (Addr × Obj)} {σ : L2.St} {H : Hp} {s : Shared} {x : V} {u : Value} {Q : V → Hp → Prop} (F : FnOk X.prog X.w X.K X.mg X.base CX n f fd ps sp) (hb : Binds X.K fd ps []) (hx : Passes CX X E) (hr : Room n A) (hfr : A.frames = X.A.frames)
    (I : Inv X pins σ H s) (rx : RelV x u) (hsp : sp [x] H Q E) :
    wpAny (model X.prog X.w) A (call (.ref f) [u]) (fun v s' => ∃ y H', Inv X pins σ H' s' ∧ RelV y v ∧ Q y H') X.xe s := by
  have e0 : Env0 X.prog X.w X.K X.mg X.base A X.stack s H := by
    have e := I.env0
    exact ⟨by rw [hfr]; exact e.frames, e.mod, e.bs, e.bsz, e.funs, e.frf, e.hok, e.bare⟩
  have hl := F.len _ _ _ _ hsp
  have r2 : Vals [x] [u] := .cons rx .nil
  refine wpAny_call (codeAny_mono (F.run A X.stack s H ⟨[u], []⟩ [u] [x] _ E hr e0 (by
    have := hb s [u] I.kIn (by simpa using hl)
    simpa using this) r2 hsp) fun r s' hq => ?_)
  match r, hq with
  | .error e, hq => exact hx pins σ H s e s' I hq
  | .ok (.ret w), hq =>
    obtain ⟨z, H', I', rz, q⟩ := I.after hq
    exact ⟨z, H', I', rz, q⟩
/-- str(x), x of a class with its own __str__ -/
def rStrO (C : Addr) (sp : Sp) (E : XK) : List V → Hp → VK → Prop := fun vs H Q => ∃ a dx fs, vs = [.ref a] ∧ H a = some (.ins C dx fs) ∧ sp [.ref a] H (fun v H' => ∃ t, v = .str t ∧ Q (.str t) H') E
theorem cr_strO (F : FnOk X.prog X.w X.K X.mg X.base CX n f fd ps sp) (hs : PySem.W.findIn X.K (.ref C) "__str__" = some (some (.ref f))) (hf : PySem.W.isFn X.K (.ref f) = true) (hb : Binds X.K fd ps []) (hx : Passes CX X E) (hr : Room (n + 2) X.A) :
    CallR X (.type "str") (rStrO C sp E) := by
  intro pins s σ H vs us Q I r h
  obtain ⟨a, dx, fs, rfl, ha, hsp⟩ := h
  obtain ⟨u, rfl, ru⟩ := vals1 r
  have eu : u = .ref a := ru
  subst eu
  obtain ⟨mA, J, _⟩ := ins_get I.hok ha
  obtain ⟨od, J, _⟩ := J.look
  refine PySem.W.kso_call (by have := hr.un; show X.A.units + 1 + 1 < cLine; omega) I.kIn J hs hf (wpAny_mono (callee1 F hb hx hr.in1.in1 rfl I ru hsp) (fun v s' k => ?_) fun _ _ k => k)
  obtain ⟨y, H', I', ry, t, rfl, q⟩ := k
  obtain ⟨tk, rfl⟩ := ry
  exact ⟨.str t, H', I', ⟨tk, rfl⟩, q⟩
/-- repr(n), whatever guards run -/
theorem cr_reprI : CallR X (.builtin "repr") (fun vs H Q => ∃ i : Int, vs = [.int i] ∧ i.natAbs.log2 < 1920 ∧ Q (.str (Str.ofString (toString i))) H) := by
  intro pins s σ H vs us Q I r h
  obtain ⟨i, rfl, hz, q⟩ := h
  obtain ⟨u, rfl, ru⟩ := vals1 r
  obtain ⟨t, rfl⟩ := ru
  exact PySem.P.repr_of_int hz ⟨.str (Str.ofString (toString i)), H, I.tok _, ⟨s.toks, rfl⟩, q⟩
end
/-- a comprehension over a text's signs -/
theorem lc_str {x : Str} {g : TG} {tt : TT} {te : TE} {vs : List Nat} {σ : L2.St} {H1 : Hp} {D : Addr} {Qd : Hp → Prop} (Pv : Nat → Hp → Prop) (h0 : Pv 0 (upd H1 D (.lst [])))
    (hs : ∀ i c H, x.cps[i]? = some c → Pv i H → g (.str ⟨#[c]⟩) (wipe σ vs) H fun σ2 H2 => wipe σ2 vs = wipe σ vs ∧ tt σ2 H2 fun b H3 =>
      if b = true then te σ2 H3 fun y H4 => ∃ acc, H4 D = some (.lst acc) ∧ acc.length < sizeLine ∧ Pv (i + 1) (upd H4 D (.lst (acc ++ [y]))) else Pv (i + 1) H3) (hd : ∀ H, Pv x.cps.size H → Qd H) :
    ∃ W : Nat → Nat → Hp → Prop, (∃ m, W 0 m (upd H1 D (.lst []))) ∧ ∀ i m H, W i m H →
      ((Its x).stop i H ∧ Qd H) ∨ ((Its x).go i H ∧ ∃ Nx : Hp → Prop, (∀ H', Nx H' → ∃ m', m' < m ∧ W (i + 1) m' H') ∧ ∀ y H', (Its x).yld i H y H' → g y (wipe σ vs) H' fun σ2 H2 => wipe σ2 vs = wipe σ vs ∧ tt σ2 H2 fun b H3 =>
        if b = true then te σ2 H3 fun y H4 => ∃ acc, H4 D = some (.lst acc) ∧ acc.length < sizeLine ∧ Nx (upd H4 D (.lst (acc ++ [y]))) else Nx H3) := by
  refine ⟨fun i m H => m = x.cps.size - i ∧ i ≤ x.cps.size ∧ Pv i H, ⟨x.cps.size, by simp, Nat.zero_le _, h0⟩, ?_⟩
  rintro i m H ⟨rfl, hi, p⟩
  by_cases hlt : i < x.cps.size
  · refine .inr ⟨hlt, Pv (i + 1), fun H' p' => ⟨x.cps.size - (i + 1), by omega, rfl, hlt, p'⟩, fun y H' hy => ?_⟩
    obtain ⟨rfl, c, hc, rfl⟩ := hy
    exact hs i c H' hc p
  · have e : i = x.cps.size := by omega
    subst e
    exact .inl ⟨Nat.le_refl _, hd H p⟩

/-! ### figures -/
/-- a number's figures are more than k where the number is 10 ^ k and more -/
theorem numL_small : ∀ (k n : Nat), (TL.numL n).length ≤ k → n < 10 ^ k
  | 0, n, h => absurd (List.length_eq_zero_iff.mp (Nat.le_zero.mp h)) (TL.numL_ne n)
  | k + 1, n, h => by
    by_cases hn : n < 10
    · have : 1 ≤ 10 ^ k := Nat.one_le_pow _ _ (by decide)
      rw [Nat.pow_succ]
      omega
    · rw [TL.numL_step (by omega), List.length_append] at h
      have e : [48 + n % 10].length = 1 := rfl
      have ih := numL_small k (n / 10) (by omega)
      rw [Nat.pow_succ]
      omega
/-- the first figure is no nought but of 0 -/
theorem numL_head (n : Nat) : 0 < n → ∃ c r, TL.numL n = c :: r ∧ c ≠ 48 := by
  induction n using Nat.strongRecOn with
  | _ n ih =>
    intro h0
    by_cases h : n < 10
    · exact ⟨48 + n, [], TL.numL_lt h, by omega⟩
    · obtain ⟨c, r, e, hc⟩ := ih (n / 10) (by omega) (by omega)
      exact ⟨c, r ++ [48 + n % 10], by rw [TL.numL_step (by omega), e]; rfl, hc⟩
end Rp
/-! text[::-1] -/
namespace Rp
open PySem PySem.Spec PyProof.Rows L2
def revT (z : Str) : Str := ⟨z.cps.toList.reverse.toArray⟩
theorem revT_len (z : Str) : (revT z).length = z.length := by
  show z.cps.toList.reverse.toArray.size = z.cps.size
  simp
theorem rev_pick (z : Str) : (Builtin.Str.strSliceIndices none none (-1) z.length).filterMap (z.cps[·]?) = z.cps.toList.reverse := by
  unfold Builtin.Str.strSliceIndices
  have h1 : ¬ ((-1 : Int) > 0) := by decide
  simp only [h1, if_false]
  rw [PySem.W.krv_sliceRange, PySem.W.krv_range, List.filterMap_reverse]
  exact congrArg List.reverse (PySem.W.krv_all z.cps)
def tRevS (te : TE) : TE := fun σ H Q => te σ H fun x H1 => ∃ z : Str, x = .str z ∧ z.length ≤ sizeLine ∧ Q (.str (revT z)) H1
theorem pe_revS {X : Cx} {e : Expr} {te : TE} {k : Nat} {p1 p2 p3 pos : Pos} (he : PE X e te) : PE X (.Subscript e (.Slice none none (some (.UnaryOp .USub (.Constant (.int 1) k p1) p2)) p3) pos) (tRevS te) := by
  refine ⟨fun pins s σ H Q I h => ?_⟩
  refine Subscript_ (thn (he.run pins s σ H _ I h) fun v s1 ⟨x, H1, I1, r1, q1⟩ => ?_)
  obtain ⟨z, ex, hz, q⟩ := q1
  subst ex
  obtain ⟨t, rfl⟩ := r1
  have hst : PO X (some (.UnaryOp .USub (.Constant (.int 1) k p1) p2)) (tPart (tUn (rU fun i => .int (-i)) (tC (.int 1)))) := po_some (pe_un un_neg pe_int)
  refine wpAny_Slice (thn (po_none.run pins s1 σ H1 (fun o H2 => o = none ∧ H2 = H1) I1 ⟨rfl, rfl⟩) fun vl s2 ⟨l, H2, I2, pl, el, e2⟩ => ?_)
  subst el e2
  refine thn (po_none.run pins s2 σ H2 (fun o H3 => o = none ∧ H3 = H2) I2 ⟨rfl, rfl⟩) fun vu s3 ⟨u, H3, I3, pu, eu, e3⟩ => ?_
  subst eu e3
  refine thn (hst.run pins s3 σ H3 (fun o H4 => o = some (-1) ∧ H4 = H3) I3 ⟨1, rfl, -1, rfl, rfl, rfl⟩) fun vs s4 ⟨o, H4, I4, ps, eo, e4⟩ => ?_
  subst eo e4
  have I5 : Inv X pins σ H4 { s4 with heap := s4.heap.push { cls := .type "slice", data := .fields #[vl, vu, vs] } } := I4.kept (t' := s4.toks) fun b ob q => Heap.get?_push_of_some _ q
  show wpAny (model X.prog X.w) X.A (subscriptTail e (.Slice none none (some (.UnaryOp .USub (.Constant (.int 1) k p1) p2)) p3) (.str z t) (.ref s4.heap.objs.size)) (EP X pins σ Q) X.xe { s4 with heap := s4.heap.push { cls := .type "slice", data := .fields #[vl, vu, vs] } }
  obtain ⟨l', rfl, el⟩ := IsPart.raw pl
  obtain ⟨u', rfl, eu⟩ := IsPart.raw pu
  obtain ⟨w', rfl, ew⟩ := IsPart.raw ps
  cases l' with
  | some _ => cases el
  | none =>
  cases u' with
  | some _ => cases eu
  | none =>
  cases w' with
  | none => cases ew
  | some w' =>
    obtain ⟨i, tk⟩ := w'
    have ei : i = -1 := by
      first
        | exact (Option.some.inj ew)
        | (injection ew)
        | (simpa using ew)
        | (have := ew.symm; simpa using this)
    subst ei
    refine tail_any (ops := [.str z t, .ref s4.heap.objs.size]) (typeIs_str _ _ _) F.slot_str_getitem.lookup ?_ (by with_unfolding_all rfl)
    refine wpAny_getItem_str_slice (l := none) (u := none) (st := some (-1, tk)) ⟨_, Heap.get?_push_size _ rfl, rfl, rfl⟩ rfl ?_
    show Made.post (if ((-1 : Int) == 1 && (Builtin.Str.strSliceIndices none none (-1) z.length).length == z.length) = true then Made.val (.str z t)
      else Made.str ⟨((Builtin.Str.strSliceIndices none none (-1) z.length).filterMap (z.cps[·]?)).toArray⟩) (EP X pins σ Q) _
    rw [if_neg (by simp), rev_pick]
    exact ⟨by show (revT z).length ≤ sizeLine; rw [revT_len]; exact hz, .str (revT z), H4, I5.tok _, ⟨_, rfl⟩, q⟩
end Rp
namespace K
open PySem L2 Rp
/-! ### the text by places -/
/-! ### decks -/
def DeckAt (H : Hp) (d : Addr) : Prop := ∃ a b c : Int, H d = some (.lst [.int a, .int b, .int c])

/-! ### promises -/
def spWhole (K : PySem.W.Frag) : Sp := fun vs H Q _ => ∃ n : Int, vs = [.int n] ∧ Q (.bl true) H
/-- a whole number, or not -/
def isW : V → Bool
  | .int _ => true
  | _ => false
/-- a value whose kind is known -/
def Wh (K : PySem.W.Frag) (H : Hp) (v : V) : Prop := ∃ tv b1 b2, TyX K H v tv ∧ PySem.W.kitOne K tv (.type "int") = some b1 ∧ PySem.W.kitOne K tv (.type "bool") = some b2 ∧ isW v = (b1 && !b2)
theorem wh_int {K : PySem.W.Frag} {H : Hp} {i : Int} : Wh K H (.int i) := ⟨_, true, false, .base (.int i), kit_ty (by decide +kernel), kit_ty (by decide +kernel), rfl⟩
def spWholeV (K : PySem.W.Frag) : Sp := fun vs H Q _ => ∃ v : V, vs = [v] ∧ Wh K H v ∧ Q (.bl (isW v)) H
def spDeck : Sp := fun vs H Q _ => ∃ n : Int, vs = [.int n] ∧ ∀ p, H p = none → ∀ H', DeckAt H' p → (∀ b, b ≠ p → H' b = H b) → Q (.ref p) H'
def spDraw : Sp := fun vs H Q _ => ∃ (d : Addr) (m : Int), vs = [.ref d, .int m] ∧ 0 < m ∧ m < 1073741824 ∧ DeckAt H d ∧ ∀ r : Int, 0 ≤ r → r < m → ∀ H', DeckAt H' d → (∀ b, b ≠ d → H' b = H b) → Q (.int r) H'

/-- what the built-in names hold -/
structure Blt (mg : Str → Option Value) : Prop where
  isi : mg "isinstance" = none
  int : mg "int" = none
  bool : mg "bool" = none

section
variable {P : Program} {w : World} {K : PySem.W.Frag} {mg : Str → Option Value} {base : Heap}
theorem FnOk.ints {n : Nat} {f : Addr} {fd : FuncData} {x : Str} (F : FnOk P w K mg base CX0 n f fd [x] (spWholeV K)) : FnOk P w K mg base CX0 n f fd [x] (spWhole K) :=
  F.imp fun vs H Q E h => let ⟨i, e, q⟩ := h; ⟨.int i, e, wh_int, q⟩
end
section
variable {P : Program} {w : World} {K : PySem.W.Frag} {mg : Str → Option Value} {base : Heap}
theorem ix3 {a b c : V} : atI [a, b, c] (0 : Int) = some a ∧ atI [a, b, c] (1 : Int) = some b ∧ atI [a, b, c] (2 : Int) = some c := ⟨rfl, rfl, rfl⟩
end
/-! ### the law's own gcd -/
theorem gcd_turn {c d : Int} (hc : 0 ≤ c) (hd : 0 ≤ d) : Int.gcd d (c % d) = Int.gcd c d := by
  obtain ⟨m, rfl⟩ := Int.eq_ofNat_of_zero_le hc
  obtain ⟨n, rfl⟩ := Int.eq_ofNat_of_zero_le hd
  show Nat.gcd n (m % n) = Nat.gcd m n
  rw [Nat.gcd_comm n, ← Nat.gcd_rec, Nat.gcd_comm]
def spDiv : Sp := fun vs H Q _ => ∃ a b : Int, vs = [.int a, .int b] ∧ 0 ≤ a ∧ 0 ≤ b ∧ Q (.int (Int.gcd a b : Nat)) H
section
variable {P : Program} {w : World} {K : PySem.W.Frag} {mg : Str → Option Value} {base : Heap}
end
/-! ### sizes -/
/-- below 2 ^ m in size -/
def Sz (m : Nat) (x : Int) : Prop := x.natAbs < 2 ^ m
theorem Sz.mono {a b : Nat} {x : Int} (h : Sz a x) (hab : a ≤ b) : Sz b x := Nat.lt_of_lt_of_le h (Nat.pow_le_pow_right (by decide) hab)
theorem Sz.mul {a b : Nat} {x y : Int} (hx : Sz a x) (hy : Sz b y) : Sz (a + b) (x * y) := wide_lt hx hy
theorem Sz.add {a : Nat} {x y : Int} (hx : Sz a x) (hy : Sz a y) : Sz (a + 1) (x + y) := by
  have h := Int.natAbs_add_le x y
  unfold Sz at *
  rw [Nat.pow_succ]
  omega
theorem Sz.sub {a : Nat} {x y : Int} (hx : Sz a x) (hy : Sz a y) : Sz (a + 1) (x - y) := by
  have h := Int.natAbs_sub_le x y
  unfold Sz at *
  rw [Nat.pow_succ]
  omega
theorem Sz.div {a : Nat} {x : Int} (hx : Sz a x) (y : Int) : Sz a (x / y) := Nat.lt_of_le_of_lt (Int.natAbs_ediv_le_natAbs x y) hx
theorem Sz.log {a : Nat} {x : Int} (hx : Sz a x) (h0 : 0 < a) : x.natAbs.log2 < a := PySem.Flt.log2_lt_of h0 hx
theorem Sz.mulOk {a b : Nat} {x y : Int} (hx : Sz a x) (hy : Sz b y) (h0 : 0 < a) (h1 : 0 < b) (h : a + b ≤ 1000000) : CMulW x y := wide_mul hx hy h0 h1 h
theorem gcd_pos {t b : Int} (hb : 0 < b) : 0 < ((Int.gcd t b : Nat) : Int) := by
  have : Int.gcd t b ≠ 0 := fun z => by
    have := Int.gcd_eq_zero_iff.mp z
    omega
  omega
theorem gcd_le {t b : Int} (hb : 0 < b) : ((Int.gcd t b : Nat) : Int) ≤ b := by
  have h := Int.gcd_dvd_right t b
  exact Int.le_of_dvd hb h
theorem Sz.gcd {a : Nat} {t b : Int} (h : Sz a b) (hb : 0 < b) : Sz a ((Int.gcd t b : Nat) : Int) := by
  have h1 := gcd_le (t := t) hb
  have h2 := gcd_pos (t := t) hb
  unfold Sz at *
  omega

/-! ### Weights -/
theorem tb_ : ¬ (("top" : Str) = "bottom") := by decide +kernel
theorem bt_ : ¬ (("bottom" : Str) = "top") := by decide +kernel
/-- a Weight's fields, as __init__ stores them -/
def wf (t b : Int) : List (Str × V) := putF "bottom" (.int b) (putF "top" (.int t) [])
theorem wf_top (t b : Int) : (wf t b).lookup ("top" : Str) = some (.int t) := by
  unfold wf
  rw [lookup_putF, if_neg tb_, lookup_putF, if_pos rfl]
theorem wf_bottom (t b : Int) : (wf t b).lookup ("bottom" : Str) = some (.int b) := by
  unfold wf
  rw [lookup_putF, if_pos rfl]
theorem wf_no (t b : Int) {m : Str} (h1 : ¬ m = "top") (h2 : ¬ m = "bottom") : (wf t b).lookup m = none := by
  unfold wf
  rw [lookup_putF, if_neg h2, lookup_putF, if_neg h1]
  all_goals rfl
/-- a Weight t / b stands at p -/
def WAt (C : Addr) (H : Hp) (p : Addr) (t b : Int) : Prop := ∃ dx, H p = some (.ins C dx (wf t b))
theorem WAt.same {C : Addr} {H H' : Hp} {p : Addr} {t b : Int} (h : WAt C H p t b) (e : Same H H') : WAt C H' p t b := let ⟨dx, h⟩ := h; ⟨dx, e _ _ h⟩
theorem same_make {H : Hp} {x dx C : Addr} {fs : List (Str × V)} (nx : H x = none) (ndx : H dx = none) : Same H (upd (upd (upd H dx (.own x)) x (.ins C dx [])) x (.ins C dx fs)) := fun b o e => by
  rw [upd_ne (ne_of_none e nx), upd_ne (ne_of_none e nx), upd_ne (ne_of_none e ndx)]
  exact e

/-- what the top holds of the class Weight, at C -/
structure WTxt (K : PySem.W.Frag) (mg : Str → Option Value) (C fW : Addr) : Prop where
  cl : Cls K C
  nT : NoAttr K C "top"
  nB : NoAttr K C "bottom"
  mgC : mg "Weight" = some (.ref C)
  mgW : mg "is_whole" = some (.ref fW)
  kpW : PySem.W.keepIn K (.ref fW) = true
  gcd : mg "gcd" = some (.builtin "math.gcd")

def spInit (C : Addr) : Sp := fun vs H Q _ => ∃ (p dx : Addr) (t b : Int), vs = [.ref p, .int t, .int b] ∧ H p = some (.ins C dx []) ∧ 0 ≤ t ∧ 0 < b ∧ Sz 8000 b ∧
  Q .non (upd H p (.ins C dx (wf (t / (Int.gcd t b : Nat)) (b / (Int.gcd t b : Nat)))))

/-- as FunD.ok, of a def that lets nothing out -/
theorem FunD_ok0 {P : Program} {w : World} {K : PySem.W.Frag} {mg : Str → Option Value} {base : Heap} {x qual : Str} {params : Arguments} {body : List Stmt} {scope : Scope} {dvs : List V} {kws : List (Str × V)} {f : Addr} {fd : FuncData} {N ps : List Str} {k : Nat} {sp : Sp}
    (F : FunD K x qual params body scope dvs kws f fd) (S : FnScope N ps scope) (len : ∀ vs H Q E, sp vs H Q E → vs.length = ps.length)
    (hbody : ∀ (cdv : Value) (A : Around) (outer : List PySem.Env) (s : Shared) (H : Hp) (vs : List V) (Q : VK) (E : XK), Room k (A.deeper (PyProof.Rows.envOfC qual scope s.heap.objs.size f cdv)) → sp vs H Q E →
      ∃ t, PSs (cxOf CX0 P w K mg base N qual scope f cdv A outer s H E).nox body t ∧ t { nx := fun _ H' => Q .non H', rt := Q } (start N vs) H) : FnOk P w K mg base CX0 (k + 1) f fd ps sp :=
  F.ok S len fun cdv A outer s H vs Q E hr h => let ⟨t, h1, h2⟩ := hbody cdv A outer s H vs Q E hr h; ⟨t, h1.nox, h2⟩

section
variable {P : Program} {w : World} {K : PySem.W.Frag} {mg : Str → Option Value} {base : Heap}
end
/-- a Weight's numbers, below 2 ^ m -/
structure Wn (m : Nat) (t b : Int) : Prop where
  t0 : 0 ≤ t
  b0 : 0 < b
  tz : Sz m t
  bz : Sz m b
theorem Wn.mono {m n : Nat} {t b : Int} (h : Wn m t b) (hm : m ≤ n) : Wn n t b := ⟨h.t0, h.b0, h.tz.mono hm, h.bz.mono hm⟩
/-- lowest terms -/
def lowT (t b : Int) : Int := t / ((Int.gcd t b : Nat) : Int)
def lowB (t b : Int) : Int := b / ((Int.gcd t b : Nat) : Int)
theorem Wn.low {m : Nat} {t b : Int} (h : Wn m t b) : Wn m (lowT t b) (lowB t b) := by
  have hg := gcd_pos (t := t) h.b0
  have hd := Int.gcd_dvd_right t b
  refine ⟨Int.ediv_nonneg h.t0 (Int.le_of_lt hg), ?_, h.tz.div _, h.bz.div _⟩
  exact Int.ediv_pos_of_pos_of_dvd h.b0 (Int.le_of_lt hg) hd

/-- a def of the module, as its callers want it -/
structure Cl (K : PySem.W.Frag) (mg : Str → Option Value) (x : Str) (f : Addr) (fd : FuncData) (ps : List Str) : Prop where
  g : mg x = some (.ref f)
  k : PySem.W.keepIn K (.ref f) = true
  b : Binds K fd ps []
/-- what isinstance asks of an own class's instance -/
structure WIns (K : PySem.W.Frag) (C : Addr) : Prop where
  ha : PySem.W.findIn K (.ref C) "__class__" = some (some (.builtin "object.__class__"))
  hn : PySem.W.specialIn K (.builtin "object.__class__") "__get__" = some (some (.builtin "getset_descriptor.__get__"))
  htk : PySem.W.takesIn K (.builtin "object.__class__") = some true
  hm : PySem.W.mroIn K C (.type "object") = some true
theorem kit_self {K : PySem.W.Frag} {C : Addr} : PySem.W.kitOne K (.ref C) (.ref C) = some true := by
  unfold PySem.W.kitOne
  rw [if_pos (by simp)]

def spLow : Sp := fun vs H Q _ => ∃ t b : Int, vs = [.int t, .int b] ∧ 0 ≤ t ∧ 0 < b ∧ Sz 8000 b ∧ ∀ p, H p = none → Q (.ref p) (upd H p (.tup [.int (lowT t b), .int (lowB t b)]))
/-- _law_is of a Weight that is what it should be -/
def spIs (C : Addr) : Sp := fun vs H Q _ => ∃ (p : Addr) (t b : Int), vs = [.ref p, .int t, .int b] ∧ 0 ≤ t ∧ 0 < b ∧ Sz 8000 b ∧ WAt C H p (lowT t b) (lowB t b) ∧ ∀ H', Same H H' → Q (.bl true) H'

section
variable {P : Program} {w : World} {K : PySem.W.Frag} {mg : Str → Option Value} {base : Heap}
end
/-- all but d is kept, what is free was free -/
structure Fw (d : Addr) (H H' : Hp) : Prop where
  kp : ∀ q o, q ≠ d → H q = some o → H' q = some o
  nn : ∀ p, H' p = none → H p = none
theorem Fw.refl (d : Addr) (H : Hp) : Fw d H H := ⟨fun _ _ _ h => h, fun _ h => h⟩
theorem Fw.trans {d : Addr} {H H1 H2 : Hp} (a : Fw d H H1) (b : Fw d H1 H2) : Fw d H H2 := ⟨fun q o n h => b.kp q o n (a.kp q o n h), fun p h => a.nn p (b.nn p h)⟩
theorem Fw.draw {d : Addr} {H H' : Hp} (h : DeckAt H' d) (e : ∀ b, b ≠ d → H' b = H b) : Fw d H H' := ⟨fun q o n h => (e q n).trans h, fun p hp => by
  by_cases z : p = d
  · obtain ⟨_, _, _, h⟩ := h
    rw [z, h] at hp
    cases hp
  · rw [← e p z]; exact hp⟩
theorem Fw.upd {d p : Addr} {H : Hp} {o : HO} (hp : H p = none) : Fw d H (upd H p o) := ⟨fun q u n h => by rw [upd_ne (ne_of_none h hp)]; exact h, fun q h => by
  by_cases z : q = p
  · rw [z, upd_same] at h; cases h
  · rw [upd_ne z] at h; exact h⟩
theorem Fw.same {d : Addr} {H H' : Hp} (e : Same H H') : (∀ p, H' p = none → H p = none) := fun p h => by
  cases q : H p with
  | none => rfl
  | some o => rw [e p o q] at h; cases h
theorem Fw.of_same {d : Addr} {H H' : Hp} (e : Same H H') : Fw d H H' := ⟨fun q o _ h => e q o h, Fw.same (d := d) e⟩
theorem DeckAt.upd {d p : Addr} {H : Hp} {o : HO} (h : DeckAt H d) (hp : H p = none) : DeckAt (upd H p o) d := by
  obtain ⟨a, b, c, h⟩ := h
  exact ⟨a, b, c, by rw [upd_ne (ne_of_none h hp)]; exact h⟩
theorem DeckAt.same {d : Addr} {H H' : Hp} (h : DeckAt H d) (e : Same H H') : DeckAt H' d := let ⟨a, b, c, h⟩ := h; ⟨a, b, c, e _ _ h⟩
theorem DeckAt.ne {d p : Addr} {H : Hp} (h : DeckAt H d) (hp : H p = none) : p ≠ d := fun z => by
  obtain ⟨_, _, _, h⟩ := h
  rw [z, h] at hp
  cases hp

theorem tYes_of {σ : L2.St} {H : Hp} {Q : Bool → Hp → Prop} (h : Q true H) : tYes σ H Q := h

def spTwo : Sp := fun vs H Q _ => ∃ d : Addr, vs = [.ref d] ∧ DeckAt H d ∧ ∀ (p : Addr) (t b : Int) (H' : Hp), 0 ≤ t → t ≤ 1000000000000 → 0 < b → b ≤ 1000000000000 → H p = none → H' p = some (.tup [.int t, .int b]) → DeckAt H' d → Fw d H H' → Q (.ref p) H'

section
variable {P : Program} {w : World} {K : PySem.W.Frag} {mg : Str → Option Value} {base : Heap}
end
/-- a number's text -/
def nT (n : Int) : Str := Str.ofString (toString n)
theorem nT_len {n : Int} (h : Sz 1600 n) : (nT n).length ≤ 1601 := by
  unfold nT
  rw [ofString_length]
  exact int_text_length_le (by decide) (h.log (by decide))
theorem append_len (x y : Str) : (x ++ y).length = x.length + y.length := strLen_append x y
theorem join_one (x : Str) : Txt.join "" [x] = x := rfl
/-- a Weight's text by repr -/
def wT (t b : Int) : Str := if b = 1 then Str.empty ++ "Weight(" ++ nT t ++ ")" else Str.empty ++ "Weight(" ++ nT t ++ ", " ++ nT b ++ ")"
theorem wT_len {t b : Int} (ht : Sz 1600 t) (hb : Sz 1600 b) : (wT t b).length ≤ 4000 := by
  have h1 := nT_len ht
  have h2 := nT_len hb
  have e1 : ("Weight(" : Str).length = 7 := by decide +kernel
  have e2 : (")" : Str).length = 1 := by decide +kernel
  have e3 : (", " : Str).length = 2 := by decide +kernel
  have e4 : (Str.empty : Str).length = 0 := by decide +kernel
  unfold wT
  split <;> simp only [append_len] <;> omega

def spShow : Sp := fun vs H Q _ => ∃ n : Int, vs = [.int n] ∧ 0 ≤ n ∧ Sz 1600 n ∧ ∀ H', Same H H' → Q (.str (nT n)) H'
def spRepr (C : Addr) : Sp := fun vs H Q _ => ∃ (p : Addr) (t b : Int), vs = [.ref p] ∧ WAt C H p t b ∧ Wn 1600 t b ∧ ∀ H', Same H H' → Q (.str (wT t b)) H'

section
variable {P : Program} {w : World} {K : PySem.W.Frag} {mg : Str → Option Value} {base : Heap}
end
theorem same_upd {H : Hp} {p : Addr} {o : HO} (hp : H p = none) : Same H (upd H p o) := fun y u e => by
  rw [upd_ne (ne_of_none e hp)]
  exact e
/-- an exception's class without an __init__ of its own -/
structure XTxt (K : PySem.W.Frag) (mg : Str → Option Value) (x : Str) (C : Addr) (bm : List Value) (newId : String) : Prop where
  g : mg x = some (.ref C)
  q : PySem.W.excIn K C bm newId = true
  k : PySem.W.keepIn K (.ref C) = true
  b : PySem.W.subIn K (.ref C) (.type "BaseException") = some true
  t : PySem.W.typeIn K (.ref C) = some (.type "type")
abbrev bmZ : List Value := [.type "ZeroDivisionError", .type "ArithmeticError", .type "Exception", .type "BaseException", .type "object"]
abbrev bmV : List Value := [.type "ValueError", .type "Exception", .type "BaseException", .type "object"]
def good (x y : V) : Prop := ∃ t b : Int, x = .int t ∧ y = .int b ∧ 0 ≤ t ∧ 0 < b
def spInitV (K : PySem.W.Frag) (C NZ NW : Addr) : Sp := fun vs H Q E => ∃ (p dx : Addr) (x y : V), vs = [.ref p, x, y] ∧ H p = some (.ins C dx []) ∧ Wh K H x ∧ Wh K H y ∧
  (y = .int 0 → E (.ref NZ) none H) ∧ (y ≠ .int 0 → ¬ good x y → E (.ref NW) none H) ∧
  (∀ t b : Int, x = .int t → y = .int b → 0 ≤ t → 0 < b → Sz 8000 b ∧ Q .non (upd H p (.ins C dx (wf (t / (Int.gcd t b : Nat)) (b / (Int.gcd t b : Nat))))))
theorem isW_int {v : V} (h : isW v = true) : ∃ i, v = .int i := by
  cases v <;> first | exact ⟨_, rfl⟩ | cases h
section
variable {P : Program} {w : World} {K : PySem.W.Frag} {mg : Str → Option Value} {base : Heap}
end
/-- the module's x is a class; b: whether S is below it -/
def IsC (K : PySem.W.Frag) (mg : Str → Option Value) (S : Addr) (x : Str) (b : Bool) : Prop := ∃ A, mg x = some (.ref A) ∧ PySem.W.kitOne K (.ref S) (.ref A) = some b
/-- what the marks ask of the error's class S -/
structure MTxt (K : PySem.W.Frag) (mg : Str → Option Value) (S : Addr) : Prop where
  e : ExcC K S
  i : mg "isinstance" = none
  c1 : IsC K mg S "NoName" false
  c2 : IsC K mg S "NoGrains" false
  c3 : IsC K mg S "NoDay" false
  c4 : IsC K mg S "NoWeight" true
  c5 : IsC K mg S "NoDeed" false
  c6 : IsC K mg S "NoRow" false
  c7 : IsC K mg S "NoText" false
  c8 : IsC K mg S "Unknown" false
  c9 : IsC K mg S "Unborne" false
  d1 : IsC K mg S "Twice" false
  d2 : IsC K mg S "TooLate" false
  d3 : IsC K mg S "NoSum" false
  d4 : IsC K mg S "Full" false
  d5 : IsC K mg S "NotAlike" false
  k : IsC K mg S "CaskError" true
  w : IsC K mg S "Wrong" true
  v : mg "ValueError" = none
  kv : PySem.W.kitOne K (.ref S) (.type "ValueError") = some true
theorem HasD.same {H H' : Hp} {d : Option Addr} (h : HasD H d) (e : Same H H') : HasD H' d := h.imp id fun ⟨dx, fs, h1, h2⟩ => ⟨dx, fs, h1, e _ _ h2⟩
def spMarks (S : Addr) : SpE := fun a cls d vs H Q _ => ∃ b : Bool, vs = [.ref a, .bl b] ∧ cls = .ref S ∧ HasD H d ∧ ∀ (m : Addr) (H' : Hp), Same H H' → H m = none → H' m = some (.lst [.bl b, .bl true, .bl true, .int 1]) → Q (.ref m) H'
section
variable {P : Program} {w : World} {K : PySem.W.Frag} {mg : Str → Option Value} {base : Heap}
end
section
variable {P : Program} {w : World} {K : PySem.W.Frag} {mg : Str → Option Value} {base : Heap}
end
/-! things of any kind: what repr tells of them is settled, their kinds are known -/
def Asc (z : Str) : Prop := ∀ c ∈ z.cps.toList, c < 128
theorem asc_lit (x : Str) (h : x.cps.toList.all (fun c => decide (c < 128)) = true) : Asc x := fun c hc => of_decide_eq_true (List.all_eq_true.mp h c hc)
inductive Th (C : Addr) (H : Hp) : Nat → Nat → List Addr → V → Prop where
  | non {n L as} : 4 ≤ L → Th C H n L as .non
  | bl {n L as} (b : Bool) : 5 ≤ L → Th C H n L as (.bl b)
  | int {n L as} {i : Int} : Sz 1600 i → 1601 ≤ L → Th C H n L as (.int i)
  | str {n L as} {x : Str} : Asc x → x.length ≤ 10000 → (reprText x).length ≤ L → (reprText x).length ≤ sizeLine → Th C H n L as (.str x)
  | wt {n L as p t b} : 3 ≤ n → p ∈ as → WAt C H p t b → Wn 1600 t b → 4000 ≤ L → Th C H n L as (.ref p)
  | tup {n L n' L' as as' a xs} : H a = some (.tup xs) → a ∉ as → (∀ v ∈ xs, Th C H n L as v) → n + 2 ≤ n' → xs.length * (L + 2) + 3 ≤ L' → (∀ b, b ∈ a :: as → b ∈ as') → Th C H n' L' as' (.ref a)
  | lst {n L n' L' as as' a xs} : H a = some (.lst xs) → a ∉ as → (∀ v ∈ xs, Th C H n L as v) → n + 2 ≤ n' → xs.length * (L + 2) + 3 ≤ L' → (∀ b, b ∈ a :: as → b ∈ as') → Th C H n' L' as' (.ref a)
  | dic {n L n' L' as as' a} {kvs : List (Key × V)} : H a = some (.dK kvs) → a ∉ as → (∀ kv ∈ kvs, Th C H n L as (kV kv.1)) → (∀ kv ∈ kvs, Th C H n L as kv.2) → n + 2 ≤ n' → kvs.length * (2 * L + 4) + 3 ≤ L' → (∀ b, b ∈ a :: as → b ∈ as') → Th C H n' L' as' (.ref a)
section
variable {C : Addr} {H H' : Hp} {n L m M : Nat} {as as' : List Addr} {v : V}
theorem Th.mono (h : Th C H n L as v) (h1 : n ≤ m) (h2 : L ≤ M) (h3 : ∀ b ∈ as, b ∈ as') : Th C H m M as' v := by
  cases h with
  | non q => exact .non (Nat.le_trans q h2)
  | bl b q => exact .bl b (Nat.le_trans q h2)
  | int i q => exact .int i (Nat.le_trans q h2)
  | str a l q z => exact .str a l (Nat.le_trans q h2) z
  | wt a b c d e => exact .wt (Nat.le_trans a h1) (h3 _ b) c d (Nat.le_trans e h2)
  | tup a b c d e f => exact .tup a b c (Nat.le_trans d h1) (Nat.le_trans e h2) fun x q => h3 _ (f x q)
  | lst a b c d e f => exact .lst a b c (Nat.le_trans d h1) (Nat.le_trans e h2) fun x q => h3 _ (f x q)
  | dic a b c c' d e f => exact .dic a b c c' (Nat.le_trans d h1) (Nat.le_trans e h2) fun x q => h3 _ (f x q)
theorem Th.congr (h : Th C H n L as v) : (∀ b ∈ as, ∀ o, H b = some o → H' b = some o) → Th C H' n L as v := by
  induction h with
  | non q => exact fun _ => .non q
  | bl b q => exact fun _ => .bl b q
  | int i q => exact fun _ => .int i q
  | str a l q z => exact fun _ => .str a l q z
  | wt a b c d e => exact fun x => .wt a b (let ⟨dx, hc⟩ := c; ⟨dx, x _ b _ hc⟩) d e
  | tup a b c d e f ih => exact fun x => .tup (x _ (f _ List.mem_cons_self) _ a) b (fun v hv => ih v hv fun y hy => x y (f y (List.mem_cons_of_mem _ hy))) d e f
  | lst a b c d e f ih => exact fun x => .lst (x _ (f _ List.mem_cons_self) _ a) b (fun v hv => ih v hv fun y hy => x y (f y (List.mem_cons_of_mem _ hy))) d e f
  | dic a b c c' d e f ih1 ih2 => exact fun x => .dic (x _ (f _ List.mem_cons_self) _ a) b (fun v hv => ih1 v hv fun y hy => x y (f y (List.mem_cons_of_mem _ hy))) (fun v hv => ih2 v hv fun y hy => x y (f y (List.mem_cons_of_mem _ hy))) d e f
end
/-! its text -/
theorem pick {α : Type} {p : α → Str → Prop} : ∀ xs : List α, (∀ v ∈ xs, ∃ t, p v t) → ∃ ts : List Str, ts.length = xs.length ∧ (∀ t ∈ ts, ∃ v, v ∈ xs ∧ p v t) ∧ ∀ (i : Nat) (x : α), xs[i]? = some x → ∃ t, ts[i]? = some t ∧ p x t
  | [], _ => ⟨[], rfl, fun t ht => (nomatch ht), fun i x h => by cases h⟩
  | x :: xs, h => by
    obtain ⟨t, ht⟩ := h x List.mem_cons_self
    obtain ⟨ts, h1, h2, h3⟩ := pick xs fun v hv => h v (List.mem_cons_of_mem _ hv)
    refine ⟨t :: ts, by rw [List.length_cons, List.length_cons, h1], fun u hu => ?_, fun i y hy => ?_⟩
    · rcases List.mem_cons.mp hu with rfl | hu
      · exact ⟨x, List.mem_cons_self, ht⟩
      · obtain ⟨v, hv, q⟩ := h2 u hu
        exact ⟨v, List.mem_cons_of_mem _ hv, q⟩
    · cases i with
      | zero => cases hy; exact ⟨t, rfl, ht⟩
      | succ i => exact h3 i y hy
theorem piled_le {B : Nat} : ∀ ts : List Str, (∀ t ∈ ts, t.length ≤ B) → piled ts ≤ ts.length * (B + 2)
  | [], _ => Nat.le_of_eq (by simp [piled])
  | t :: ts, h => by
    have ih := piled_le ts fun u hu => h u (List.mem_cons_of_mem _ hu)
    have h0 := h t List.mem_cons_self
    rw [piled_cons, List.length_cons, Nat.add_mul]
    omega
theorem join_le {B : Nat} {ts : List Str} (h : ∀ t ∈ ts, t.length ≤ B) : (Str.join ", " ts).length ≤ ts.length * (B + 2) := by
  have hp := piled_le ts h
  by_cases e : ts = []
  · subst e
    exact Nat.zero_le _
  · have := join_length_add ts e
    omega
theorem tupleText_le {B : Nat} {ts : List Str} (h : ∀ t ∈ ts, t.length ≤ B) : (tupleText ts).length ≤ ts.length * (B + 2) + 3 := by
  have hj := join_le h
  unfold tupleText
  rw [strLen_append, strLen_append]
  have e1 : ((("(" : String) : Str)).length = 1 := rfl
  have e3 : (((if ts.length == 1 then ",)" else ")" : String) : Str)).length ≤ 2 := by split <;> decide
  omega
theorem dictText_le {B : Nat} {ts : List Str} (h : ∀ t ∈ ts, t.length ≤ B) : (dictText ts).length ≤ ts.length * (B + 2) + 3 := by
  have hj := join_le h
  unfold dictText
  rw [strLen_append, strLen_append]
  have e1 : ((("{" : String) : Str)).length = 1 := rfl
  have e3 : ((("}" : String) : Str)).length = 1 := rfl
  omega
theorem sum_piled : ∀ ts : List Str, (ts.map (·.length)).sum + 2 * ts.length = piled ts
  | [] => rfl
  | t :: ts => by
    have ih := sum_piled ts
    rw [piled_cons, List.map_cons, List.sum_cons, List.length_cons]
    omega
theorem listText_le {B : Nat} {ts : List Str} (h : ∀ t ∈ ts, t.length ≤ B) : (listText ts).length ≤ ts.length * (B + 2) + 3 := by
  have hp := piled_le ts h
  have h1 := textFrom_len_le ts 0 "["
  have h2 := sum_piled ts
  unfold listText
  rw [strLen_append]
  have e1 : ((("[" : String) : Str)).length = 1 := rfl
  have e3 : ((("]" : String) : Str)).length = 1 := rfl
  omega
section
variable {P : Program} {w : World} {K : PySem.W.Frag} {mg : Str → Option Value} {base : Heap}
/-- what is asked of a context -/
structure Ctx (X : Cx) (P : Program) (w : World) (K : PySem.W.Frag) (mg : Str → Option Value) (base : Heap) : Prop where
  p : X.prog = P
  w : X.w = w
  K : X.K = K
  mg : X.mg = mg
  base : X.base = base
/-- v's text is t, wherever the parts named as stand -/
def Tells (P : Program) (w : World) (K : PySem.W.Frag) (mg : Str → Option Value) (base : Heap) (n L : Nat) (as : List Addr) (H : Hp) (v : V) (t : Str) : Prop :=
  t.length ≤ L ∧ ∀ X : Cx, Ctx X P w K mg base → ∀ H', (∀ b ∈ as, ∀ o, H b = some o → H' b = some o) → Says X n as H' v t
theorem Th.tells {C fR : Addr} {fd : FuncData} (aR : PySem.W.findIn K (.ref C) "__repr__" = some (some (.ref fR))) (iR : PySem.W.isFn K (.ref fR) = true) (bR : Binds K fd ["self"] []) (GR : FnOk P w K mg base CX0 2 fR fd ["self"] (spRepr C))
    {H : Hp} {n L : Nat} {as : List Addr} {v : V} (h : Th C H n L as v) : ∃ t, Tells P w K mg base n L as H v t := by
  induction h with
  | non q => exact ⟨("None" : String), q, fun X _ H' _ => says_non.mono (Nat.zero_le _) fun _ z => nomatch z⟩
  | bl b q => exact ⟨(if b then "True" else "False" : String), by cases b <;> first | exact q | exact Nat.le_trans (by decide) q, fun X _ H' _ => (says_bl b).mono (Nat.zero_le _) fun _ z => nomatch z⟩
  | @int n L as i z q =>
    refine ⟨_, Nat.le_trans (nT_len z) q, fun X _ H' _ => (says_int (Nat.lt_trans (z.log (by decide)) (by decide))).mono (Nat.zero_le _) fun _ z => nomatch z⟩
  | str a l q z => exact ⟨_, q, fun X _ H' _ => (says_str z).mono (Nat.zero_le _) fun _ z => nomatch z⟩
  | @wt n L as p t b hn hm hw nn q =>
    refine ⟨wT t b, Nat.le_trans (wT_len nn.tz nn.bz) q, fun X c H' e => ?_⟩
    obtain ⟨rfl, rfl, rfl, rfl, rfl⟩ := c
    obtain ⟨dx, hp⟩ := hw
    refine (says_own (t := wT t b) GR aR iR bR pass0 (e p hm _ hp) fun H1 s1 => ?_).mono hn fun _ z => nomatch z
    exact ⟨p, t, b, rfl, ⟨dx, s1 _ _ (e p hm _ hp)⟩, nn, fun H2 s2 => ⟨rfl, s2⟩⟩
  | @tup n L n' L' as as' a xs h1 h2 h3 h4 h5 h6 ih =>
    obtain ⟨ts, e1, e2, e3⟩ := pick (p := fun v t => Tells P w K mg base n L as H v t) xs ih
    refine ⟨tupleText ts, Nat.le_trans (tupleText_le (B := L) fun t ht => let ⟨_, _, q⟩ := e2 t ht; q.1) (by rw [e1]; exact h5), fun X c H' e => ?_⟩
    refine (says_tup (n := n) (as := as) (ts := ts) (SqT.of (e a (h6 a List.mem_cons_self) _ h1)) h2 e1 fun i x hx => ?_).mono h4 h6
    obtain ⟨t, ht, q⟩ := e3 i x hx
    exact ⟨t, ht, q.2 X c H' fun b hb => e b (h6 b (List.mem_cons_of_mem _ hb))⟩
  | @lst n L n' L' as as' a xs h1 h2 h3 h4 h5 h6 ih =>
    obtain ⟨ts, e1, e2, e3⟩ := pick (p := fun v t => Tells P w K mg base n L as H v t) xs ih
    refine ⟨listText ts, Nat.le_trans (listText_le (B := L) fun t ht => let ⟨_, _, q⟩ := e2 t ht; q.1) (by rw [e1]; exact h5), fun X c H' e => ?_⟩
    refine (says_lst (n := n) (as := as) (ts := ts) (SqL.of (e a (h6 a List.mem_cons_self) _ h1)) h2 e1 fun i x hx => ?_).mono h4 h6
    obtain ⟨t, ht, q⟩ := e3 i x hx
    exact ⟨t, ht, q.2 X c H' fun b hb => e b (h6 b (List.mem_cons_of_mem _ hb))⟩
  | @dic n L n' L' as as' a kvs h1 h2 h3 h3' h4 h5 h6 ih1 ih2 =>
    obtain ⟨ts, e1, e2, e3⟩ := pick (p := fun (kv : Key × V) t => ∃ t1 t2 : Str, t = t1 ++ ": " ++ t2 ∧ Tells P w K mg base n L as H (kV kv.1) t1 ∧ Tells P w K mg base n L as H kv.2 t2) kvs fun kv hk => by
      obtain ⟨t1, q1⟩ := ih1 kv hk
      obtain ⟨t2, q2⟩ := ih2 kv hk
      exact ⟨_, t1, t2, rfl, q1, q2⟩
    have l2 : ((": " : String) : Str).length = 2 := rfl
    refine ⟨dictText ts, Nat.le_trans (dictText_le (B := 2 * L + 2) fun t ht => ?_) (by rw [e1]; exact h5), fun X c H' e => ?_⟩
    · obtain ⟨_, _, t1, t2, rfl, q1, q2⟩ := e2 t ht
      rw [strLen_append, strLen_append]
      have := q1.1
      have := q2.1
      omega
    · refine (says_dict (n := n) (as := as) (ts := ts) (kvs := kvs) (e a (h6 a List.mem_cons_self) _ h1) h2 fun od => ⟨e1, fun i k v hkv => ?_⟩).mono h4 h6
      obtain ⟨t, ht, t1, t2, rfl, q1, q2⟩ := e3 i (k, v) hkv
      have up : ∀ b ∈ as, ∀ o, H b = some o → (upd H' a (.frz od (.dK kvs))) b = some o := fun b hb o ho => by
        rw [upd_ne (fun z : b = a => h2 (z ▸ hb))]
        exact e b (h6 b (List.mem_cons_of_mem _ hb)) o ho
      exact ⟨t1, t2, ht, q1.2 X c _ up, q2.2 X c _ up⟩
/-- its kind -/
theorem Th.wh {C : Addr} {H : Hp} {n L : Nat} {as : List Addr} {v : V} (h : Th C H n L as v) (cl : Cls K C) (N : WIns K C) (ki : PySem.W.kitOne K (.ref C) (.type "int") = some false) (kb : PySem.W.kitOne K (.ref C) (.type "bool") = some false) : Wh K H v := by
  cases h with
  | non q => exact ⟨_, false, false, .base .non, kit_ty (by decide +kernel), kit_ty (by decide +kernel), rfl⟩
  | bl b q => exact ⟨_, true, true, .base (.bl b), kit_ty (by decide +kernel), kit_ty (by decide +kernel), rfl⟩
  | int i q => exact wh_int
  | str a l q z => exact ⟨_, false, false, .base (.str _), kit_ty (by decide +kernel), kit_ty (by decide +kernel), rfl⟩
  | wt a b c d e =>
    obtain ⟨dx, hp⟩ := c
    exact ⟨_, false, false, .base (.ins hp cl N.ha N.hn N.htk N.hm), ki, kb, rfl⟩
  | tup a b c d e f => exact ⟨_, false, false, .base (.tup a), kit_ty (by decide +kernel), kit_ty (by decide +kernel), rfl⟩
  | lst a b c d e f => exact ⟨_, false, false, .base (.lst a), kit_ty (by decide +kernel), kit_ty (by decide +kernel), rfl⟩
  | dic a b c c' d e f => exact ⟨_, false, false, .base (.dK a), kit_ty (by decide +kernel), kit_ty (by decide +kernel), rfl⟩
end
/-! a thing that doesn't speak of the deck d -/
def Od (C d : Addr) (N M : Nat) (H : Hp) (v : V) : Prop := ∃ as, d ∉ as ∧ (∀ b ∈ as, H b ≠ none) ∧ Th C H N M as v
section
variable {C d : Addr} {H H' : Hp} {N M N' M' : Nat} {v : V}
theorem Od.fw {C d : Addr} {H H' : Hp} {N M : Nat} {v : V} (h : Od C d N M H v) (f : Fw d H H') : Od C d N M H' v := by
  obtain ⟨as, h1, h2, h3⟩ := h
  refine ⟨as, h1, fun b hb z => h2 b hb (f.nn b z), h3.congr fun b hb o ho => f.kp b o (fun z => h1 (z ▸ hb)) ho⟩
theorem Od.same (h : Od C d N M H v) (e : Same H H') : Od C d N M H' v := h.fw (Fw.of_same e)
theorem Od.mono (h : Od C d N M H v) (h1 : N ≤ N') (h2 : M ≤ M') : Od C d N' M' H v := by
  obtain ⟨as, a, b, c⟩ := h
  exact ⟨as, a, b, c.mono h1 h2 fun _ z => z⟩
theorem od_non (h : 4 ≤ M) : Od C d N M H .non := ⟨[], List.not_mem_nil, (fun b hb => nomatch hb), .non h⟩
theorem od_bl {b : Bool} (h : 5 ≤ M) : Od C d N M H (.bl b) := ⟨[], List.not_mem_nil, (fun b hb => nomatch hb), .bl b h⟩
theorem od_int {i : Int} (z : Sz 1600 i) (h : 1601 ≤ M) : Od C d N M H (.int i) := ⟨[], List.not_mem_nil, (fun b hb => nomatch hb), .int z h⟩
theorem od_str {x : Str} (a : Asc x) (l : x.length ≤ 10000) (h : (reprText x).length ≤ M) (z : (reprText x).length ≤ sizeLine) : Od C d N M H (.str x) := ⟨[], List.not_mem_nil, (fun b hb => nomatch hb), .str a l h z⟩
theorem od_wt {p : Addr} {t b : Int} (h : WAt C H p t b) (n : Wn 1600 t b) (nd : p ≠ d) (h1 : 3 ≤ N) (h2 : 4000 ≤ M) : Od C d N M H (.ref p) := by
  refine ⟨[p], fun z => nd (List.mem_singleton.mp z).symm, fun b hb e => ?_, .wt h1 List.mem_cons_self h n h2⟩
  obtain ⟨dx, hp⟩ := h
  rw [List.mem_singleton.mp hb, hp] at e
  cases e
/-- several at once -/
theorem od_all {xs : List V} (h : ∀ v ∈ xs, Od C d N M H v) : ∃ as, d ∉ as ∧ (∀ b ∈ as, H b ≠ none) ∧ ∀ v ∈ xs, Th C H N M as v := by
  induction xs with
  | nil => exact ⟨[], List.not_mem_nil, fun b hb => (nomatch hb), fun v hv => nomatch hv⟩
  | cons x xs ih =>
    obtain ⟨as, a1, a2, a3⟩ := ih fun v hv => h v (List.mem_cons_of_mem _ hv)
    obtain ⟨bs, b1, b2, b3⟩ := h x List.mem_cons_self
    refine ⟨bs ++ as, fun z => (List.mem_append.mp z).elim b1 a1, fun b hb => (List.mem_append.mp hb).elim (b2 b) (a2 b), fun v hv => ?_⟩
    rcases List.mem_cons.mp hv with rfl | hv
    · exact b3.mono (Nat.le_refl _) (Nat.le_refl _) fun b hb => List.mem_append_left _ hb
    · exact (a3 v hv).mono (Nat.le_refl _) (Nat.le_refl _) fun b hb => List.mem_append_right _ hb
theorem od_tup {a : Addr} {xs : List V} (ha : H a = none) (nd : a ≠ d) (h : ∀ v ∈ xs, Od C d N M H v) (h1 : N + 2 ≤ N') (h2 : xs.length * (M + 2) + 3 ≤ M') : Od C d N' M' (upd H a (.tup xs)) (.ref a) := by
  obtain ⟨as, a1, a2, a3⟩ := od_all h
  have na : a ∉ as := fun z => a2 a z ha
  have up : ∀ b ∈ as, ∀ o, H b = some o → (upd H a (.tup xs)) b = some o := fun b hb o ho => by
    rw [upd_ne (fun z : b = a => na (z ▸ hb))]
    exact ho
  refine ⟨a :: as, fun z => (List.mem_cons.mp z).elim (fun z => nd z.symm) a1, fun b hb z => ?_, .tup upd_same na (fun v hv => (a3 v hv).congr up) h1 h2 fun b hb => hb⟩
  by_cases e : b = a
  · rw [e, upd_same] at z
    cases z
  · rw [upd_ne e] at z
    exact a2 b ((List.mem_cons.mp hb).resolve_left e) z
theorem od_lst {a : Addr} {xs : List V} (ha : H a = none) (nd : a ≠ d) (h : ∀ v ∈ xs, Od C d N M H v) (h1 : N + 2 ≤ N') (h2 : xs.length * (M + 2) + 3 ≤ M') : Od C d N' M' (upd H a (.lst xs)) (.ref a) := by
  obtain ⟨as, a1, a2, a3⟩ := od_all h
  have na : a ∉ as := fun z => a2 a z ha
  have up : ∀ b ∈ as, ∀ o, H b = some o → (upd H a (.lst xs)) b = some o := fun b hb o ho => by
    rw [upd_ne (fun z : b = a => na (z ▸ hb))]
    exact ho
  refine ⟨a :: as, fun z => (List.mem_cons.mp z).elim (fun z => nd z.symm) a1, fun b hb z => ?_, .lst upd_same na (fun v hv => (a3 v hv).congr up) h1 h2 fun b hb => hb⟩
  by_cases e : b = a
  · rw [e, upd_same] at z
    cases z
  · rw [upd_ne e] at z
    exact a2 b ((List.mem_cons.mp hb).resolve_left e) z
theorem od_dic {a : Addr} {kvs : List (Key × V)} (ha : H a = none) (nd : a ≠ d) (h : ∀ kv ∈ kvs, Od C d N M H kv.2 ∧ ∃ k : Int, kv.1 = .inl k ∧ Sz 1600 k) (hM : 1601 ≤ M) (h1 : N + 2 ≤ N') (h2 : kvs.length * (2 * M + 4) + 3 ≤ M') : Od C d N' M' (upd H a (.dK kvs)) (.ref a) := by
  obtain ⟨as, a1, a2, a3⟩ := od_all (xs := kvs.map (·.2)) fun v hv => by
    obtain ⟨kv, hk, rfl⟩ := List.mem_map.mp hv
    exact (h kv hk).1
  have na : a ∉ as := fun z => a2 a z ha
  have up : ∀ b ∈ as, ∀ o, H b = some o → (upd H a (.dK kvs)) b = some o := fun b hb o ho => by
    rw [upd_ne (fun z : b = a => na (z ▸ hb))]
    exact ho
  refine ⟨a :: as, fun z => (List.mem_cons.mp z).elim (fun z => nd z.symm) a1, fun b hb z => ?_, .dic upd_same na (fun kv hk => ?_) (fun kv hk => (a3 _ (List.mem_map.mpr ⟨kv, hk, rfl⟩)).congr up) h1 h2 fun b hb => hb⟩
  · by_cases e : b = a
    · rw [e, upd_same] at z
      cases z
    · rw [upd_ne e] at z
      exact a2 b ((List.mem_cons.mp hb).resolve_left e) z
  · obtain ⟨_, k, ek, zk⟩ := h kv hk
    rw [ek]
    exact .int zk hM
end
theorem al0 {p : V → Prop} : ∀ v ∈ ([] : List V), p v := fun _ h => nomatch h
theorem al {p : V → Prop} {x : V} {xs : List V} (h : p x) (t : ∀ v ∈ xs, p v) : ∀ v ∈ x :: xs, p v := fun v hv => (List.mem_cons.mp hv).elim (fun e => e ▸ h) (t v)
theorem at_in {xs : List V} {q : Int} (h0 : 0 ≤ q) (h1 : q < (xs.length : Int)) : ∃ v, atI xs q = some v ∧ v ∈ xs := by
  have h2 : q.toNat < xs.length := by omega
  have e : xs[q.toNat]? = some xs[q.toNat] := List.getElem?_eq_getElem h2
  refine ⟨_, ?_, List.getElem_mem h2⟩
  have e2 := atI_nat e
  rwa [Int.toNat_of_nonneg h0] at e2
def spOdd (C : Addr) : Sp := fun vs H Q _ => ∃ d : Addr, vs = [.ref d] ∧ DeckAt H d ∧ ∀ (v : V) (H' : Hp), Od C d 20 300000 H' v → DeckAt H' d → Fw d H H' → Q v H'
def Ld : Nat → Nat
  | 0 => 1601
  | n + 1 => 2 * Ld n + 7
theorem Ld_big : ∀ n, 1601 ≤ Ld n
  | 0 => Nat.le_refl _
  | n + 1 => by
    have := Ld_big n
    show 1601 ≤ 2 * Ld n + 7
    omega
section
variable {P : Program} {w : World} {K : PySem.W.Frag} {mg : Str → Option Value} {base : Heap}
end
def WhS (K : PySem.W.Frag) (H : Hp) (v : V) : Prop := ∀ H', Same H H' → Wh K H' v
theorem WhS.same {K : PySem.W.Frag} {H H' : Hp} {v : V} (h : WhS K H v) (e : Same H H') : WhS K H' v := fun H2 e2 => h H2 (e.trans e2)
def spHeard (K : PySem.W.Frag) (C : Addr) : Sp := fun vs H Q _ => ∃ x y : V, vs = [x, y] ∧ WhS K H x ∧ WhS K H y ∧
  (y = .int 0 → ∀ (r m : Addr) (H' : Hp), Same H H' → H' r = some (.lst [.non, .ref m]) → H' m = some (.lst [.str "whole", .bl true, .bl false]) → Q (.ref r) H') ∧
  (y ≠ .int 0 → ¬ good x y → ∀ (r m n : Addr) (H' : Hp), Same H H' → H' r = some (.lst [.non, .ref m]) → H' m = some (.lst [.str "weight", .bl true, .ref n]) → H' n = some (.lst [.bl true, .bl true, .bl true, .int 1]) → Q (.ref r) H') ∧
  (∀ t b : Int, x = .int t → y = .int b → 0 ≤ t → 0 < b → Sz 8000 b ∧ ∀ (r m p : Addr) (H' : Hp), Same H H' → H' r = some (.lst [.ref p, .ref m]) → H' m = some (.lst []) → WAt C H' p (lowT t b) (lowB t b) → Q (.ref r) H')
section
variable {P : Program} {w : World} {K : PySem.W.Frag} {mg : Str → Option Value} {base : Heap}
end
/-- two things that are told of -/
def Pr (C : Addr) (H : Hp) (x y : V) : Prop := ∃ as, (∀ b ∈ as, H b ≠ none) ∧ Th C H 20 300000 as x ∧ Th C H 20 300000 as y
def spRight (C : Addr) : Sp := fun vs H Q _ => ∃ x y : V, vs = [x, y] ∧ Pr C H x y ∧ ∀ H', Same H H' → Q (.bl true) H'
theorem Th.small {C : Addr} {H : Hp} {n L : Nat} {as : List Addr} {i : Int} (h : Th C H n L as (.int i)) : Sz 1600 i := by
  cases h with
  | int z _ => exact z
section
variable {P : Program} {w : World} {K : PySem.W.Frag} {mg : Str → Option Value} {base : Heap}
theorem pair_says {X : Cx} {H H' : Hp} {as : List Addr} {x y : V} {tx ty : Str} {p : Addr} (c : Ctx X P w K mg base) (h1 : Tells P w K mg base 20 300000 as H x tx) (h2 : Tells P w K mg base 20 300000 as H y ty) (e : Same H H') (hb : ∀ b ∈ as, H b ≠ none) (hp : H' p = none) :
    Says X 22 (p :: as) (upd H' p (.tup [x, y])) (.ref p) (tupleText [tx, ty]) := by
  have e2 : ∀ b ∈ as, ∀ o, H b = some o → (upd H' p (.tup [x, y])) b = some o := fun b _ o ho => same_upd hp _ _ (e _ _ ho)
  refine says_tup (n := 20) (ts := [tx, ty]) (SqT.of upd_same) (fun z => ?_) rfl fun i v hv => ?_
  · have := hb p z
    exact this (Fw.same (d := p) e p hp)
  · match i, hv with
    | 0, hv => cases hv; exact ⟨tx, rfl, h1.2 X c _ e2⟩
    | 1, hv => cases hv; exact ⟨ty, rfl, h2.2 X c _ e2⟩
    | i + 2, hv => cases hv
end
/-- pairs of things -/
def PrsO (C d : Addr) (H : Hp) (xs : List V) : Prop := ∀ v ∈ xs, ∃ (a : Addr) (x y : V), v = .ref a ∧ a ≠ d ∧ H a = some (.tup [x, y]) ∧ Od C d 20 300000 H x ∧ Od C d 20 300000 H y
/-- pairs of things that are no objects -/
def PrsA (C d : Addr) (H : Hp) (xs : List V) : Prop := ∀ v ∈ xs, ∃ (a : Addr) (x y : V), v = .ref a ∧ a ≠ d ∧ H a = some (.tup [x, y]) ∧ (∀ H, Od C d 20 300000 H x) ∧ (∀ H, Od C d 20 300000 H y)
section
variable {C d : Addr} {H H' : Hp} {xs ys : List V} {a : Addr} {x y : V}
theorem PrsO.fw (h : PrsO C d H xs) (f : Fw d H H') : PrsO C d H' xs := fun v hv => let ⟨a, x, y, h1, h2, h3, h4, h5⟩ := h v hv; ⟨a, x, y, h1, h2, f.kp a _ h2 h3, h4.fw f, h5.fw f⟩
theorem PrsO.add (h : PrsO C d H xs) (ha : H a = none) (nd : a ≠ d) (ox : Od C d 20 300000 H x) (oy : Od C d 20 300000 H y) : PrsO C d (upd H a (.tup [x, y])) (xs ++ [.ref a]) := fun v hv => by
  have f := Fw.upd (d := d) (o := .tup [x, y]) ha
  rcases List.mem_append.mp hv with z | z
  · exact h.fw f v z
  · exact ⟨a, x, y, List.mem_singleton.mp z, nd, upd_same, ox.fw f, oy.fw f⟩
theorem PrsO.cat (h : PrsO C d H xs) (h2 : PrsO C d H ys) : PrsO C d H (xs ++ ys) := fun v hv => (List.mem_append.mp hv).elim (h v) (h2 v)
theorem PrsA.fw (h : PrsA C d H xs) (f : Fw d H H') : PrsA C d H' xs := fun v hv => let ⟨a, x, y, h1, h2, h3, h4, h5⟩ := h v hv; ⟨a, x, y, h1, h2, f.kp a _ h2 h3, h4, h5⟩
theorem PrsA.add (h : PrsA C d H xs) (ha : H a = none) (nd : a ≠ d) (ox : ∀ H, Od C d 20 300000 H x) (oy : ∀ H, Od C d 20 300000 H y) : PrsA C d (upd H a (.tup [x, y])) (xs ++ [.ref a]) := fun v hv => by
  have f := Fw.upd (d := d) (o := .tup [x, y]) ha
  rcases List.mem_append.mp hv with z | z
  · exact h.fw f v z
  · exact ⟨a, x, y, List.mem_singleton.mp z, nd, upd_same, ox, oy⟩
theorem PrsA.cat (h : PrsA C d H xs) (h2 : PrsA C d H ys) : PrsA C d H (xs ++ ys) := fun v hv => (List.mem_append.mp hv).elim (h v) (h2 v)
theorem PrsA.write {l : Addr} {zs us : List V} (h : PrsA C d H xs) (hl : H l = some (.lst zs)) : PrsA C d (upd H l (.lst us)) xs := fun v hv => by
  obtain ⟨a, x, y, h1, h2, h3, h4, h5⟩ := h v hv
  refine ⟨a, x, y, h1, h2, ?_, h4, h5⟩
  rw [upd_ne (fun z => by rw [z, hl] at h3; cases h3)]
  exact h3
theorem PrsA.o (h : PrsA C d H xs) : PrsO C d H xs := fun v hv => let ⟨a, x, y, h1, h2, h3, h4, h5⟩ := h v hv; ⟨a, x, y, h1, h2, h3, h4 _, h5 _⟩
end
theorem Fw.at {d l : Addr} {H H' : Hp} {o : HO} (f : Fw d H H') (h0 : H l = none) : Fw d H (L2.upd H' l o) := ⟨fun q u n h => by
  rw [upd_ne (ne_of_none h h0)]
  exact f.kp q u n h, fun q h => by
  by_cases z : q = l
  · rw [z, upd_same] at h
    cases h
  · rw [upd_ne z] at h
    exact f.nn q h⟩
def spPairs (C : Addr) : Sp := fun vs H Q _ => ∃ d : Addr, vs = [.ref d] ∧ DeckAt H d ∧ ∀ (l : Addr) (xs : List V) (H' : Hp), DeckAt H' d → Fw d H H' → H' l = some (.lst xs) → PrsO C d H' xs → Q (.ref l) H'
section
variable {P : Program} {w : World} {K : PySem.W.Frag} {mg : Str → Option Value} {base : Heap}
end
def spLaw (K : PySem.W.Frag) : Sp := fun vs H Q _ => ∃ (a : Addr) (ns : List Int), vs = [.ref a] ∧ SqL K H a (ns.map V.int) ∧ ns.length ≤ 63 ∧ ∀ H', Q (.bl true) H'
theorem pr_of {C d : Addr} {H : Hp} {x y : V} (h1 : Od C d 20 300000 H x) (h2 : Od C d 20 300000 H y) : Pr C H x y := by
  obtain ⟨as, _, a2, a3⟩ := od_all (al (p := fun v => Od C d 20 300000 H v) h1 (al h2 al0))
  exact ⟨as, a2, a3 x (by simp), a3 y (by simp)⟩
section
variable {P : Program} {w : World} {K : PySem.W.Frag} {mg : Str → Option Value} {base : Heap}
end
def TOk (v : V) : Prop := ∀ z, v = .str z → Asc z ∧ z.length ≤ 10000
theorem Th.tok {C : Addr} {H : Hp} {n L : Nat} {as : List Addr} {v : V} (h : Th C H n L as v) : TOk v := fun z e => by
  subst e
  cases h with
  | str a l _ _ => exact ⟨a, l⟩
theorem Od.tok {C d : Addr} {N M : Nat} {H : Hp} {v : V} (h : Od C d N M H v) : TOk v := let ⟨_, _, _, t⟩ := h; t.tok
end K
/-! texts of plain signs -/
namespace K
open PySem PySem.Spec PyProof.Rows L2 Rp
theorem asc_app {x y : Str} (h1 : Asc x) (h2 : Asc y) : Asc (x ++ y) := fun c hc => by
  have e : (x ++ y).cps.toList = x.cps.toList ++ y.cps.toList := TL.tl_append x y
  rw [e] at hc
  exact (List.mem_append.mp hc).elim (h1 c) (h2 c)
theorem asc_cut {z : Str} (h : Asc z) (lo hi : Option Int) : Asc (cutS z lo hi) := fun c hc => by
  unfold cutS at hc
  exact h c (List.mem_of_mem_drop (List.mem_of_mem_take (by simpa using hc)))
theorem asc_rev {z : Str} (h : Asc z) : Asc (revT z) := fun c hc => by
  unfold revT at hc
  exact h c (by simpa using hc)
theorem up_asc : ∀ c, c < 128 → ∀ x ∈ Unicode.upperOf c, x < 128 := by decide +kernel
theorem asc_upper {z : Str} (h : Asc z) : Asc (Txt.upper z) := fun c hc => by
  unfold Txt.upper placed at hc
  have hc : ∃ l, (∃ a, (∃ (i : Nat) (h : i < z.cps.size), (Unicode.upperOf z.cps[i]).toArray = a) ∧ a.toList = l) ∧ c ∈ l := by simpa using hc
  obtain ⟨_, ⟨_, ⟨i, hi, rfl⟩, rfl⟩, hm⟩ := hc
  have hd := h (z.cps[i]) (by simp)
  exact up_asc _ hd c (by simpa using hm)
theorem asc_one {c : Nat} (h : c < 128) : Asc ⟨#[c]⟩ := fun d hd => by
  have : d = c := by simpa using hd
  omega
theorem join_cons (x y : Str) (r : List Str) : Txt.join "" (x :: y :: r) = x ++ "" ++ Txt.join "" (y :: r) := by
  rw [TL.join_eq, TL.join_eq]
  rfl
theorem join_asc : ∀ ys : List Str, (∀ y ∈ ys, Asc y) → Asc (Txt.join "" ys)
  | [], _ => by rw [TL.join_eq]; exact asc_lit _ (by decide +kernel)
  | [x], h => by rw [TL.join_eq]; exact h x List.mem_cons_self
  | x :: y :: r, h => by
    rw [join_cons]
    exact asc_app (asc_app (h x List.mem_cons_self) (asc_lit _ (by decide +kernel))) (join_asc (y :: r) fun u hu => h u (List.mem_cons_of_mem _ hu))
theorem join_len1 : ∀ ys : List Str, (∀ y ∈ ys, y.length = 1) → (Txt.join "" ys).length = ys.length
  | [], _ => by rw [TL.join_eq]; rfl
  | [x], h => by rw [TL.join_eq]; exact h x List.mem_cons_self
  | x :: y :: r, h => by
    have e0 : ("" : Str).length = 0 := by decide +kernel
    rw [join_cons, append_len, append_len, e0, h x List.mem_cons_self, join_len1 (y :: r) fun u hu => h u (List.mem_cons_of_mem _ hu)]
    show 1 + 0 + (y :: r).length = (y :: r).length + 1
    omega
theorem sum_ones : ∀ ys : List Str, (∀ y ∈ ys, y.length = 1) → (ys.map (·.length)).sum = ys.length
  | [], _ => rfl
  | y :: ys, h => by
    rw [List.map_cons, List.sum_cons, sum_ones ys fun u hu => h u (List.mem_cons_of_mem _ hu), h y List.mem_cons_self, List.length_cons]
    omega
theorem od_text {C d : Addr} {N : Nat} {H : Hp} {z : Str} (h : Asc z) (hl : z.length ≤ 10000) : Od C d N 300000 H (.str z) := by
  have h1 := StrLaws.reprText_len z fun c hc => Nat.lt_trans (h c hc) (by decide)
  exact od_str h hl (Nat.le_trans h1 (by omega)) (Nat.le_trans h1 (Nat.le_trans (show _ ≤ 200000 by omega) (by decide)))
theorem tok_ref {p : Addr} : TOk (.ref p) := fun z e => by cases e
theorem tok_int {i : Int} : TOk (.int i) := fun z e => by cases e
theorem tok_bl {i : Bool} : TOk (.bl i) := fun z e => by cases e
theorem tok_non : TOk .non := fun z e => by cases e
theorem tok_str {z : Str} (h : Asc z) (hl : z.length ≤ 10000) : TOk (.str z) := fun y e => by cases e; exact ⟨h, hl⟩
/-! text * number -/
theorem op_mulS {X : Cx} : OpR X (binaryOp .Mult) (fun x y H Q => ∃ (a : Str) (n : Int), x = .str a ∧ y = .int n ∧ MulOk a n ∧ Q (.str (Txt.mul a n)) H) := by
  intro pins s σ H x y v u Q I rx ry h
  obtain ⟨a, n, rfl, rfl, hz, q⟩ := h
  obtain ⟨t, rfl⟩ := rx
  obtain ⟨t', rfl⟩ := ry
  exact SB.mul hz fun t' k => ⟨.str (Txt.mul a n), H, I.tok _, ⟨_, rfl⟩, q⟩
/-! kinds: a text or not -/
def isS : V → Bool
  | .str _ => true
  | _ => false
def Ws (K : PySem.W.Frag) (H : Hp) (v : V) : Prop := ∃ tv, TyX K H v tv ∧ PySem.W.kitOne K tv (.type "str") = some (isS v)
theorem Th.ws {K : PySem.W.Frag} {C : Addr} {H : Hp} {n L : Nat} {as : List Addr} {v : V} (h : Th C H n L as v) (cl : Cls K C) (N : WIns K C) (ks : PySem.W.kitOne K (.ref C) (.type "str") = some false) : Ws K H v := by
  cases h with
  | non q => exact ⟨_, .base .non, kit_ty (by decide +kernel)⟩
  | bl b q => exact ⟨_, .base (.bl b), (kit_ty (by decide +kernel) : PySem.W.kitOne K (.type "bool") (.type "str") = some false)⟩
  | int i q => exact ⟨_, .base (.int _), (kit_ty (by decide +kernel) : PySem.W.kitOne K (.type "int") (.type "str") = some false)⟩
  | str a l q z => exact ⟨_, .base (.str _), (kit_ty (by decide +kernel) : PySem.W.kitOne K (.type "str") (.type "str") = some true)⟩
  | wt a b c d e =>
    obtain ⟨dx, hp⟩ := c
    exact ⟨_, .base (.ins hp cl N.ha N.hn N.htk N.hm), ks⟩
  | tup a b c d e f => exact ⟨_, .base (.tup a), (kit_ty (by decide +kernel) : PySem.W.kitOne K (.type "tuple") (.type "str") = some false)⟩
  | lst a b c d e f => exact ⟨_, .base (.lst a), (kit_ty (by decide +kernel) : PySem.W.kitOne K (.type "list") (.type "str") = some false)⟩
  | dic a b c c' d e f => exact ⟨_, .base (.dK a), (kit_ty (by decide +kernel) : PySem.W.kitOne K (.type "dict") (.type "str") = some false)⟩
/-! a local name that holds one of several defs -/
def tCallV (i : Nat) (R : Addr → Sp → Prop) (t : TA) : TE := fun σ H Q => ∃ f sp, σ[i]? = some (some (.ref f)) ∧ R f sp ∧ t σ H fun vs H1 => sp vs H1 Q (fun _ _ _ => False)
theorem pe_callV {X : Cx} {k i : Nat} {x : Str} {p pos : Pos} {e : Expr} {es : List Expr} {t : TA} {R : Addr → Sp → Prop} (A : ∀ f sp, R f sp → Held X.prog X.w X.K X.mg X.base k f sp) (hr : Room k X.A) (hN : X.N[i]? = some x) (hv : Vis X.env.scope x) (ha : PA X (e :: es) t)
    (hdb : (x == ("__debug__" : Str)) = false := by decide) (hcd : (x == ("__classdict__" : Str)) = false := by decide)
    (he : starEach (e :: es) X.env = (false, eval e X.env) :: starEach es X.env := by rfl) (hpl : (backTo pos (starEach es X.env)).any (·.1) = false := by rfl) : PE X (.Call (.Name x p) (e :: es) [] pos) (tCallV i R t) := by
  refine ⟨fun pins s σ H Q I h => ?_⟩
  obtain ⟨f, sp, hs, hS, ht⟩ := h
  obtain ⟨fd, ps, F, hk, hb⟩ := (A f sp hS).ex
  refine (pe_callL (i := i) (f := f) (sp := sp) (dvs := []) (E := fun _ _ _ => False) F hr hN hv hk hb .nil (fun _ _ _ _ _ _ _ z => z.elim) ha hdb hcd he hpl).run pins s σ H Q I ⟨hs, ?_⟩
  have e0 : (fun (vs : List V) (H1 : Hp) => sp (vs ++ []) H1 Q (fun _ _ _ => False)) = fun vs H1 => sp vs H1 Q (fun _ _ _ => False) := by
    funext vs H1
    rw [List.append_nil]
  show t σ H (fun vs H1 => sp (vs ++ []) H1 Q (fun _ _ _ => False))
  rw [e0]
  exact ht
/-! one thing -/
def Pr1 (C : Addr) (H : Hp) (x : V) : Prop := ∃ as, (∀ b ∈ as, H b ≠ none) ∧ Th C H 20 300000 as x
theorem pr1_of {C d : Addr} {H : Hp} {x : V} (h : Od C d 20 300000 H x) : Pr1 C H x := let ⟨as, _, a2, a3⟩ := h; ⟨as, a2, a3⟩
theorem Pr1.same {C : Addr} {H H' : Hp} {x : V} (h : Pr1 C H x) (e : Same H H') : Pr1 C H' x := by
  obtain ⟨as, a2, a3⟩ := h
  refine ⟨as, fun b hb z => ?_, a3.congr fun b _ o ho => e b o ho⟩
  exact a2 b hb (Fw.same (d := b) e b z)
theorem Od.over {C d l : Addr} {N M : Nat} {H0 H1 : Hp} {v : V} {o : HO} (h : Od C d N M H0 v) (h0 : H0 l = none) (f : Fw d H0 H1) : Od C d N M (upd H1 l o) v := by
  obtain ⟨as, a1, a2, a3⟩ := h
  have nl : ∀ b ∈ as, b ≠ l := fun b hb z => a2 b hb (z ▸ h0)
  refine ⟨as, a1, fun b hb z => ?_, a3.congr fun b hb o ho => ?_⟩
  · rw [upd_ne (nl b hb)] at z
    exact a2 b hb (f.nn b z)
  · rw [upd_ne (nl b hb)]
    exact f.kp b o (fun z => a1 (z ▸ hb)) ho
end K
namespace K
open PySem L2 Rp
section
variable {P : Program} {w : World} {K : PySem.W.Frag} {mg : Str → Option Value} {base : Heap}
end
section
variable {P : Program} {w : World} {K : PySem.W.Frag} {mg : Str → Option Value} {base : Heap}
end
abbrev LETS : Str := "abcdefghijklmnopqrstuvwxyz"
def inL (y : Str) (c : Nat) : Bool := decide (c ∈ y.cps.toList)
def nmV : V → Bool
  | .str z => decide (1 ≤ (z.length : Int)) && (decide ((z.length : Int) ≤ 8) && z.cps.toList.all (inL LETS))
  | _ => false
def grV : V → Bool
  | .int i => decide (1 ≤ i)
  | _ => false
def dyV : V → Bool
  | .int i => decide (0 ≤ i) && decide (i ≤ 1200)
  | _ => false
def spMade : Sp := fun vs H Q _ => ∃ z y : Str, vs = [.str z, .str y] ∧ z.length ≤ 10000 ∧ ∀ H', Same H H' → Q (.bl (z.cps.toList.all (inL y))) H'
/-- a question about a thing -/
def spQ (K : PySem.W.Frag) (q : V → Bool) : Sp := fun vs H Q _ => ∃ v : V, vs = [v] ∧ Wh K H v ∧ Ws K H v ∧ TOk v ∧ ∀ H', Same H H' → Q (.bl (q v)) H'
section
variable {P : Program} {w : World} {K : PySem.W.Frag} {mg : Str → Option Value} {base : Heap}
end
theorem eqvAll_strs : ∀ fs : List Str, PyData.eqvAll (fs.map PyData.str) [] = decide (fs = [])
  | [] => rfl
  | _ :: _ => rfl
theorem canLay_strs : ∀ fs : List Str, (∀ f ∈ fs, Asc f) → PyData.canLayAll0 (fs.map PyData.str) = true
  | [], _ => rfl
  | f :: fs, h => by
    have ih := canLay_strs fs fun g hg => h g (List.mem_cons_of_mem _ hg)
    have h0 : PySem.PyData.strOk f = true := by
      unfold PySem.PyData.strOk
      rw [Array.all_eq_true]
      intro i hi
      exact decide_eq_true (Nat.lt_trans (h f List.mem_cons_self _ (by simp)) (by decide))
    show (PyData.canLay0 (.str f) && PyData.canLayAll0 (fs.map PyData.str)) = true
    rw [ih]
    simpa [PyData.canLay0] using h0
theorem depth_strs : ∀ fs : List Str, PyData.depthAll (fs.map PyData.str) = 0
  | [] => rfl
  | f :: fs => by simp [PyData.depthAll, PyData.depth, depth_strs fs]
theorem shaped_strs {fs : List Str} (h : ∀ f ∈ fs, Asc f) : SeqAt.shaped (.list (fs.map PyData.str)) = true := by
  simp [SeqAt.shaped, PyData.canLay0, PyData.depth, canLay_strs fs h, depth_strs]
theorem dp_strs {K : PySem.W.Frag} {H : Hp} : ∀ fs : List Str, DpAll K H (fs.map V.str) (fs.map PyData.str)
  | [] => .nil
  | f :: fs => .cons (.str f) (dp_strs fs)
def spSign : Sp := fun vs H Q _ => ∃ d : Addr, vs = [.ref d] ∧ DeckAt H d ∧ ∀ (z : Str) (H' : Hp), Asc z → z.length = 1 → DeckAt H' d → Fw d H H' → Q (.str z) H'
def spLName : Sp := fun vs H Q _ => ∃ d : Addr, vs = [.ref d] ∧ DeckAt H d ∧ ∀ (z : Str) (H' : Hp), Asc z → z.length ≤ 8 → DeckAt H' d → Fw d H H' → Q (.str z) H'
def spBent : Sp := fun vs H Q _ => ∃ (d : Addr) (z : Str), vs = [.ref d, .str z] ∧ DeckAt H d ∧ Asc z ∧ z.length ≤ 1000 ∧ ∀ (z' : Str) (H' : Hp), Asc z' → z'.length ≤ 3 * z.length + 3 → DeckAt H' d → Fw d H H' → Q (.str z') H'
section
variable {P : Program} {w : World} {K : PySem.W.Frag} {mg : Str → Option Value} {base : Heap}
end
theorem od_dicK {C d : Addr} {H : Hp} {N M N' M' : Nat} {a : Addr} {kvs : List (Key × V)} (ha : H a = none) (nd : a ≠ d) (h : ∀ kv ∈ kvs, Od C d N M H kv.2 ∧ Od C d N M H (kV kv.1)) (h1 : N + 2 ≤ N') (h2 : kvs.length * (2 * M + 4) + 3 ≤ M') : Od C d N' M' (upd H a (.dK kvs)) (.ref a) := by
  obtain ⟨as, a1, a2, a3⟩ := od_all (xs := kvs.map (·.2) ++ kvs.map (fun kv => kV kv.1)) fun v hv => by
    rcases List.mem_append.mp hv with hv | hv
    · obtain ⟨kv, hk, rfl⟩ := List.mem_map.mp hv
      exact (h kv hk).1
    · obtain ⟨kv, hk, rfl⟩ := List.mem_map.mp hv
      exact (h kv hk).2
  have na : a ∉ as := fun z => a2 a z ha
  have up : ∀ b ∈ as, ∀ o, H b = some o → (upd H a (.dK kvs)) b = some o := fun b hb o ho => by
    rw [upd_ne (fun z : b = a => na (z ▸ hb))]
    exact ho
  refine ⟨a :: as, fun z => (List.mem_cons.mp z).elim (fun z => nd z.symm) a1, fun b hb z => ?_, .dic upd_same na (fun kv hk => (a3 _ (List.mem_append_right _ (List.mem_map.mpr ⟨kv, hk, rfl⟩))).congr up) (fun kv hk => (a3 _ (List.mem_append_left _ (List.mem_map.mpr ⟨kv, hk, rfl⟩))).congr up) h1 h2 fun b hb => hb⟩
  by_cases e : b = a
  · rw [e, upd_same] at z
    cases z
  · rw [upd_ne e] at z
    exact a2 b ((List.mem_cons.mp hb).resolve_left e) z
def spTold (K : PySem.W.Frag) (C : Addr) (R : Addr → Sp → Prop) : Sp := fun vs H Q _ => ∃ (f : Addr) (v : V) (b : Bool) (q : V → Bool), vs = [.ref f, v, .bl b] ∧ R f (spQ K q) ∧ b = q v ∧ Pr1 C H v ∧ TOk v ∧ ∀ H', Same H H' → Q (.bl true) H'
theorem al2 {p : V → Prop} {x : V} {xs : List V} (h : p x) (t : ∀ v ∈ xs, p v) : ∀ v ∈ x :: xs, p v := al h t
section
variable {P : Program} {w : World} {K : PySem.W.Frag} {mg : Str → Option Value} {base : Heap}
end
section
variable {P : Program} {w : World} {K : PySem.W.Frag} {mg : Str → Option Value} {base : Heap}
end
end K
/-! figures of numbers; texts of Weights -/
namespace K
open PySem L2 Rp
theorem low_mul {t b : Int} (hb : 0 < b) : lowT t b * ((Int.gcd t b : Nat) : Int) = t ∧ lowB t b * ((Int.gcd t b : Nat) : Int) = b :=
  ⟨Int.ediv_mul_cancel (Int.gcd_dvd_left t b), Int.ediv_mul_cancel (Int.gcd_dvd_right t b)⟩
theorem low_scale {g x y : Int} (hg : 0 < g) (hy : 0 < y) : lowT (g * x) (g * y) = lowT x y ∧ lowB (g * x) (g * y) = lowB x y := by
  have e : ((Int.gcd (g * x) (g * y) : Nat) : Int) = g * ((Int.gcd x y : Nat) : Int) := by
    rw [Int.gcd_mul_left, Int.natCast_mul]
    congr 1
    omega
  unfold lowT lowB
  rw [e]
  exact ⟨Int.mul_ediv_mul_of_pos _ _ hg, Int.mul_ediv_mul_of_pos _ _ hg⟩
theorem low_low {t b : Int} (hb : 0 < b) : lowT (lowT t b) (lowB t b) = lowT t b ∧ lowB (lowT t b) (lowB t b) = lowB t b := by
  have hg := gcd_pos (t := t) hb
  obtain ⟨e1, e2⟩ := low_mul (t := t) hb
  have hl : 0 < lowB t b := Int.ediv_pos_of_pos_of_dvd hb (Int.le_of_lt hg) (Int.gcd_dvd_right _ _)
  obtain ⟨r1, r2⟩ := low_scale (x := lowT t b) (y := lowB t b) hg hl
  rw [← r1, ← r2, Int.mul_comm _ (lowT t b), Int.mul_comm _ (lowB t b), e1, e2]
  exact ⟨rfl, rfl⟩
theorem low_one (t : Int) : lowT t 1 = t ∧ lowB t 1 = 1 := by
  unfold lowT lowB
  rw [Int.gcd_one_right]
  exact ⟨Int.ediv_one t, rfl⟩
theorem low_gcd {t b : Int} (h : ((Int.gcd t b : Nat) : Int) = 1) : lowT t b = t ∧ lowB t b = b := by
  unfold lowT lowB
  rw [h]
  exact ⟨Int.ediv_one t, Int.ediv_one b⟩
theorem gcd_low {t b : Int} (hb : 0 < b) (h : lowB t b = b) : ((Int.gcd t b : Nat) : Int) = 1 := by
  have hg := gcd_pos (t := t) hb
  obtain ⟨_, e2⟩ := low_mul (t := t) hb
  rw [h] at e2
  have : b * ((Int.gcd t b : Nat) : Int) = b * 1 := by rw [e2]; omega
  exact Int.eq_of_mul_eq_mul_left (by omega) this
theorem emp (x : Str) : Str.empty ++ x = x := TL.ext_tl (by rw [TL.tl_append]; rfl)
/-- a Weight's text -/
def wS (t b : Int) : Str := if b = 1 then nT t else nT t ++ "/" ++ nT b
theorem wS_len {t b : Int} (ht : Sz 1600 t) (hb : Sz 1600 b) : (wS t b).length ≤ 4000 := by
  have h1 := nT_len ht
  have h2 := nT_len hb
  have e3 : ("/" : Str).length = 1 := by decide +kernel
  unfold wS
  split
  · omega
  · simp only [append_len, e3]
    omega
theorem nT_tl {n : Int} (h : 0 ≤ n) : TL.tl (nT n) = TL.numL n.toNat := by
  obtain ⟨k, rfl⟩ := Int.eq_ofNat_of_zero_le h
  exact TL.tl_num k
theorem nT_int {n : Int} (h : 0 ≤ n) (hl : (nT n).length ≤ 640) : intText? (nT n) = some n := by
  obtain ⟨k, rfl⟩ := Int.eq_ofNat_of_zero_le h
  have e : (nT (k : Int)).length = (TL.numL k).length := by
    rw [TL.len_tl]
    exact congrArg List.length (TL.tl_num k)
  exact TL.int_num (by omega)
theorem nT_long {n : Int} {k : Nat} (h : 0 ≤ n) : (nT n).length ≤ k ↔ n < (10 : Int) ^ k ∧ 0 < k := by
  obtain ⟨m, rfl⟩ := Int.eq_ofNat_of_zero_le h
  have e : (nT (m : Int)).length = (TL.numL m).length := by
    rw [TL.len_tl]
    exact congrArg List.length (TL.tl_num m)
  have ep : ((10 : Int) ^ k) = ((10 ^ k : Nat) : Int) := by simp
  rw [e, ep]
  constructor
  · intro h1
    refine ⟨Int.ofNat_lt.mpr (numL_small k m h1), ?_⟩
    rcases Nat.eq_zero_or_pos k with z | z
    · subst z
      exact absurd (List.length_eq_zero_iff.mp (Nat.le_zero.mp h1)) (TL.numL_ne m)
    · exact z
  · rintro ⟨h1, h2⟩
    exact TL.numL_len h2 (Int.ofNat_lt.mp h1)
theorem nT_ne {n : Int} (h : 0 ≤ n) : 1 ≤ (nT n).length := by
  rw [TL.len_tl, nT_tl h]
  exact List.length_pos_iff.mpr (TL.numL_ne _)
theorem nT_zero : nT 0 = "0" := by decide +kernel
theorem nT_one : nT 1 = "1" := by decide +kernel
theorem nT_inj {m n : Int} (hm : 0 ≤ m) (hn : 0 ≤ n) (h : nT m = nT n) : m = n := by
  have e := congrArg TL.tl h
  rw [nT_tl hm, nT_tl hn] at e
  have := TL.numL_inj e
  omega
abbrev TENS : Str := "0123456789"
theorem tens_list : (TENS : Str).cps.toList = [48, 49, 50, 51, 52, 53, 54, 55, 56, 57] := by decide +kernel
theorem tens_mem {c : Nat} (h1 : 48 ≤ c) (h2 : c ≤ 57) : c ∈ (TENS : Str).cps.toList := by
  rw [tens_list]
  simp only [List.mem_cons, List.not_mem_nil, or_false]
  omega
theorem tens_of {c : Nat} (h : c ∈ (TENS : Str).cps.toList) : 48 ≤ c ∧ c ≤ 57 := by
  rw [tens_list] at h
  simp only [List.mem_cons, List.not_mem_nil, or_false] at h
  omega
theorem nT_mem {n : Int} (h : 0 ≤ n) {c : Nat} (hc : c ∈ (nT n).cps.toList) : c ∈ (TENS : Str).cps.toList := by
  have hm : c ∈ TL.tl (nT n) := hc
  rw [nT_tl h] at hm
  obtain ⟨h1, h2⟩ := TL.numL_digits _ c hm
  exact tens_mem h1 h2
theorem nT_stroke {n : Int} (h : 0 ≤ n) : 47 ∉ TL.tl (nT n) := by
  rw [nT_tl h]
  exact TL.numL_free (.inl (by decide))
theorem stroke_tl : TL.tl ("/" : Str) = [47] := by decide +kernel
theorem digits_num : ∀ (m : Nat) (l : List Nat), l.length = m → l ≠ [] → (∀ c ∈ l, 48 ≤ c ∧ c ≤ 57) → (l.head? = some 48 → l = [48]) → ∃ n : Nat, l = TL.numL n
  | 0, l, h, h1, _, _ => absurd (List.length_eq_zero_iff.mp h) h1
  | m + 1, l, h, h1, hd, h0 => by
    obtain ⟨l', c, rfl⟩ : ∃ l' c, l = l' ++ [c] := ⟨l.dropLast, l.getLast h1, (List.dropLast_concat_getLast h1).symm⟩
    have hc := hd c (by simp)
    by_cases e : l' = []
    · subst e
      refine ⟨c - 48, ?_⟩
      rw [TL.numL_lt (by omega)]
      have : 48 + (c - 48) = c := by omega
      rw [this]
      rfl
    · have hh : l'.head? ≠ some 48 := fun z => by
        have z2 : (l' ++ [c]).head? = some 48 := by
          rw [List.head?_append, z]
          rfl
        have z3 := congrArg List.length (h0 z2)
        rw [List.length_append] at z3
        have z4 : l'.length = 0 := by
          have : [c].length = 1 := rfl
          have : [48].length = 1 := rfl
          omega
        exact e (List.length_eq_zero_iff.mp z4)
      obtain ⟨k, hk⟩ := digits_num m l' (by simpa using h) e (fun x hx => hd x (by simp [hx])) (fun z => absurd z hh)
      have kp : 0 < k := by
        rcases Nat.eq_zero_or_pos k with z | z
        · subst z
          rw [hk, TL.numL_lt (by decide)] at hh
          exact absurd rfl hh
        · exact z
      refine ⟨10 * k + (c - 48), ?_⟩
      rw [TL.numL_step (by omega), show (10 * k + (c - 48)) / 10 = k by omega, show (10 * k + (c - 48)) % 10 = c - 48 by omega, ← hk, show 48 + (c - 48) = c by omega]
/-- the text of a whole number of at most twelve figures -/
def NumX (z : Str) : Prop := ∃ n : Int, 0 ≤ n ∧ n < 1000000000000 ∧ z = nT n
theorem nT_head {n : Int} (h : 0 ≤ n) (h0 : (nT n).cps.toList.head? = some 48) : nT n = "0" := by
  have hz : n = 0 := by
    refine Classical.byContradiction fun hne => ?_
    obtain ⟨c, r, e, hc⟩ := numL_head n.toNat (by omega)
    have e2 : (TL.tl (nT n)).head? = some 48 := h0
    rw [nT_tl h, e] at e2
    exact hc (Option.some.inj e2)
  rw [hz, nT_zero]
theorem e12 : (10 : Int) ^ 12 = 1000000000000 := by decide
theorem NumX.len {z : Str} (h : NumX z) : 1 ≤ z.length ∧ z.length ≤ 12 := by
  obtain ⟨n, h0, h1, rfl⟩ := h
  exact ⟨nT_ne h0, (nT_long h0).mpr ⟨by rw [e12]; exact h1, by decide⟩⟩
theorem NumX.head {z : Str} (h : NumX z) (h0 : z.cps.toList.head? = some 48) : z = "0" := by
  obtain ⟨n, n0, _, rfl⟩ := h
  exact nT_head n0 h0
theorem NumX.all {z : Str} (h : NumX z) : z.cps.toList.all (inL TENS) = true := by
  obtain ⟨n, n0, _, rfl⟩ := h
  exact List.all_eq_true.mpr fun c hc => decide_eq_true (nT_mem n0 hc)
theorem num_of {z : Str} (h1 : 1 ≤ z.length) (h2 : z.length ≤ 12) (h3 : z.cps.toList.head? = some 48 → z = "0") (h : z.cps.toList.all (inL TENS) = true) : NumX z := by
  have hd : ∀ c ∈ z.cps.toList, 48 ≤ c ∧ c ≤ 57 := fun c hc => tens_of (of_decide_eq_true (List.all_eq_true.mp h c hc))
  have ne : z.cps.toList ≠ [] := fun e => by
    rw [TL.len_tl] at h1
    have z0 : TL.tl z = [] := e
    rw [z0] at h1
    exact absurd h1 (by decide)
  obtain ⟨n, hn⟩ := digits_num _ _ rfl ne hd (fun e => by rw [h3 e]; decide +kernel)
  have n0 : (0 : Int) ≤ (n : Int) := by omega
  have ez : z = nT (n : Int) := TL.ext_tl (by rw [nT_tl n0]; exact hn)
  refine ⟨n, n0, ?_, ez⟩
  rw [ez] at h2
  have := ((nT_long (n := (n : Int)) (k := 12) n0).mp h2).1
  rw [e12] at this
  exact this
theorem num_iff {z : Str} (h1 : 1 ≤ z.length) (h2 : z.length ≤ 12) (h3 : z.cps.toList.head? = some 48 → z = "0") : z.cps.toList.all (inL TENS) = true ↔ NumX z := ⟨num_of h1 h2 h3, NumX.all⟩
theorem num_nT {n : Int} (h0 : 0 ≤ n) (h1 : n < 1000000000000) : NumX (nT n) := ⟨n, h0, h1, rfl⟩
/-- the first sign -/
theorem first_of {z : Str} (h : 1 ≤ z.length) : ∃ c r, z.cps.toList = c :: r := by
  cases e : z.cps.toList with
  | nil =>
    rw [TL.len_tl] at h
    have : TL.tl z = [] := e
    rw [this] at h
    exact absurd h (by decide)
  | cons c r => exact ⟨c, r, rfl⟩
theorem zero_sign {c : Nat} (h : (⟨#[c]⟩ : Str) = "0") : c = 48 := by
  have := congrArg TL.tl h
  have e0 : TL.tl ("0" : Str) = [48] := by decide +kernel
  rw [e0] at this
  exact (List.cons.inj (show [c] = [48] from this)).1
theorem sign_zero : (⟨#[48]⟩ : Str) = "0" := by decide +kernel

/-! ### a text that is a Weight's -/
structure IsW (z : Str) (t b : Int) : Prop where
  t0 : 0 ≤ t
  b0 : 0 < b
  t1 : t < 1000000000000
  b1 : b < 1000000000000
  l1 : lowT t b = t
  l2 : lowB t b = b
  e : z = wS t b
/-- top and bottom's texts, whatever Weight it is -/
def Pc (z x y : Str) : Prop := ∀ t b, IsW z t b → x = nT t ∧ y = nT b
theorem stroke_cases (z : Str) : 47 ∉ TL.tl z ∨ ∃ a c : Str, z = a ++ "/" ++ c ∧ 47 ∉ TL.tl a := by
  by_cases h : 47 ∈ TL.tl z
  · obtain ⟨s, t, e, hs⟩ := List.eq_append_cons_of_mem h
    refine .inr ⟨⟨s.toArray⟩, ⟨t.toArray⟩, TL.ext_tl ?_, hs⟩
    rw [TL.tl_append, TL.tl_append, stroke_tl]
    show TL.tl z = _
    rw [e]
    show s ++ 47 :: t = s ++ [47] ++ t
    simp
  · exact .inl h
theorem pc_one {z : Str} (h : 47 ∉ TL.tl z) : Pc z z "1" := fun t b w => by
  by_cases hb : b = 1
  · have e := w.e
    unfold wS at e
    rw [if_pos hb] at e
    exact ⟨e, by rw [hb, nT_one]⟩
  · have e := w.e
    unfold wS at e
    rw [if_neg hb] at e
    refine absurd ?_ h
    rw [e, TL.tl_append, TL.tl_append, stroke_tl]
    simp
theorem pc_two {z a c : Str} (e : z = a ++ "/" ++ c) (h : 47 ∉ TL.tl a) : Pc z a c ∧ ∀ t b, IsW z t b → b ≠ 1 := by
  have main : ∀ t b, IsW z t b → b ≠ 1 ∧ a = nT t ∧ c = nT b := fun t b w => by
    have e1 := w.e
    by_cases hb : b = 1
    · unfold wS at e1
      rw [if_pos hb] at e1
      refine absurd ?_ (nT_stroke w.t0)
      rw [← e1, e, TL.tl_append, TL.tl_append, stroke_tl]
      simp
    · unfold wS at e1
      rw [if_neg hb, e] at e1
      have p1 := TL.partition_app (b := c) stroke_tl h
      have p2 := TL.partition_app (b := nT b) stroke_tl (nT_stroke w.t0)
      rw [e1, p2] at p1
      have q := Prod.mk.inj p1
      exact ⟨hb, q.1.symm, (Prod.mk.inj q.2).2.symm⟩
  exact ⟨fun t b w => (main t b w).2, fun t b w => (main t b w).1⟩
theorem IsW.nums {z x y : Str} {t b : Int} (w : IsW z t b) (p : Pc z x y) : NumX x ∧ NumX y ∧ y ≠ "0" := by
  obtain ⟨rfl, rfl⟩ := p t b w
  refine ⟨num_nT w.t0 w.t1, num_nT (Int.le_of_lt w.b0) w.b1, fun e => ?_⟩
  rw [← nT_zero] at e
  have := nT_inj (Int.le_of_lt w.b0) (by decide) e
  have := w.b0
  omega
theorem low_le {t b : Int} (h0 : 0 ≤ t) (hb : 0 < b) : lowT t b ≤ t ∧ lowB t b ≤ b := ⟨Int.ediv_le_self _ h0, Int.ediv_le_self _ (Int.le_of_lt hb)⟩
theorem low_pos {t b : Int} (h0 : 0 ≤ t) (hb : 0 < b) : 0 ≤ lowT t b ∧ 0 < lowB t b := by
  have hg := gcd_pos (t := t) hb
  exact ⟨Int.ediv_nonneg h0 (Int.le_of_lt hg), Int.ediv_pos_of_pos_of_dvd hb (Int.le_of_lt hg) (Int.gcd_dvd_right _ _)⟩
theorem isw_of {z : Str} {n m : Int} (n0 : 0 ≤ n) (n1 : n < 1000000000000) (m0 : 0 < m) (m1 : m < 1000000000000) (e : wS (lowT n m) (lowB n m) = z) : IsW z (lowT n m) (lowB n m) := by
  obtain ⟨a1, a2⟩ := low_le n0 m0
  obtain ⟨b1, b2⟩ := low_pos n0 m0
  obtain ⟨c1, c2⟩ := low_low (t := n) m0
  exact ⟨b1, b2, by omega, by omega, c1, c2, e.symm⟩
theorem not_isw {z : Str} {n m : Int} (n0 : 0 ≤ n) (m0 : 0 < m) (p : Pc z (nT n) (nT m)) (ne : ¬ wS (lowT n m) (lowB n m) = z) (t b : Int) : ¬ IsW z t b := fun w => by
  obtain ⟨e1, e2⟩ := p t b w
  have e1 := nT_inj n0 w.t0 e1
  have e2 := nT_inj (Int.le_of_lt m0) (Int.le_of_lt w.b0) e2
  subst e1 e2
  rw [w.l1, w.l2] at ne
  exact ne w.e.symm
/-! ### split -/
theorem kind_stroke (z : Str) : ¬ Builtin.Str.strKind z < Builtin.Str.strKind "/" := TL.kind_ok (by decide +kernel)
theorem split_tl (z : Str) : (Txt.split z "/").map TL.tl = TL.spl [47] 0 [] (TL.tl z) := by
  have := TL.split_spl z "/" (by rw [stroke_tl]; simp) (kind_stroke z)
  rw [stroke_tl] at this
  exact this
theorem split_one {z : Str} (h : 47 ∉ TL.tl z) : Txt.split z "/" = [z] := TL.map_tl_inj (by
  rw [split_tl, TL.spl_last1 h]
  rfl)
theorem split_cons {a c : Str} (h : 47 ∉ TL.tl a) : (Txt.split (a ++ "/" ++ c) "/").map TL.tl = TL.tl a :: (Txt.split c "/").map TL.tl := by
  rw [split_tl, split_tl, TL.tl_append, TL.tl_append, stroke_tl]
  have e : TL.tl a ++ [47] ++ TL.tl c = TL.tl a ++ ([47] ++ TL.tl c) := by simp
  rw [e]
  exact TL.spl_part1 h
theorem split_ne (z : Str) : 1 ≤ (Txt.split z "/").length := by
  rcases stroke_cases z with h | ⟨a, c, rfl, h⟩
  · rw [split_one h]
    exact Nat.le_refl 1
  · have := congrArg List.length (split_cons (c := c) h)
    rw [List.length_map, List.length_cons] at this
    omega
theorem split_cases (z : Str) : (Txt.split z "/" = [z] ∧ 47 ∉ TL.tl z) ∨ (∃ a c : Str, z = a ++ "/" ++ c ∧ 47 ∉ TL.tl a ∧ Txt.split z "/" = [a, c]) ∨ (2 < (Txt.split z "/").length ∧ ∀ t b, ¬ IsW z t b) := by
  rcases stroke_cases z with h | ⟨a, c, rfl, h⟩
  · exact .inl ⟨split_one h, h⟩
  · refine .inr ?_
    have e := split_cons (c := c) h
    rcases stroke_cases c with h2 | ⟨a2, c2, rfl, h2⟩
    · rw [split_one h2] at e
      exact .inl ⟨a, c, rfl, h, TL.map_tl_inj e⟩
    · refine .inr ⟨?_, fun t b w => ?_⟩
      · have e1 := congrArg List.length e
        have e2 := congrArg List.length (split_cons (c := c2) h2)
        have e3 := split_ne c2
        simp only [List.length_map, List.length_cons] at e1 e2
        omega
      · have e3 := ((pc_two rfl h).1 t b w).2
        refine absurd ?_ (nT_stroke (Int.le_of_lt w.b0))
        rw [← e3, TL.tl_append, TL.tl_append, stroke_tl]
        simp
/-! ### a text, so many times -/
theorem fold_list (a : Array Nat) : ∀ (n : Nat) (acc : Array Nat), ((List.replicate n a).foldl (· ++ ·) acc).toList = acc.toList ++ (List.replicate n a.toList).flatten
  | 0, acc => by simp
  | n + 1, acc => by
    rw [List.replicate_succ, List.foldl_cons, fold_list a n (acc ++ a), List.replicate_succ]
    simp
theorem mul_mem {x : Str} {n : Int} {c : Nat} (h : c ∈ (Txt.mul x n).cps.toList) : c ∈ x.cps.toList := by
  unfold Txt.mul at h
  split at h
  · simp [Str.empty] at h
  · split at h
    · exact h
    · have h2 : c ∈ ((List.replicate n.toNat x.cps).foldl (· ++ ·) #[]).toList := h
      rw [fold_list] at h2
      simp only [List.nil_append, List.mem_flatten, List.mem_replicate] at h2
      obtain ⟨l, ⟨_, rfl⟩, hc⟩ := h2
      exact hc
theorem mul_asc {x : Str} {n : Int} (h : Asc x) : Asc (Txt.mul x n) := fun c hc => h c (mul_mem hc)
theorem mul_len (x : Str) (n : Nat) : (Txt.mul x n).length ≤ n * x.length := by
  unfold Txt.mul
  split
  · exact Nat.zero_le _
  · split
    · rename_i h1 h2
      rcases (Bool.or_eq_true _ _).mp h2 with h | h
      · have : (n : Int) = 1 := by simpa using h
        have : n = 1 := by omega
        subst this
        omega
      · have : x.length = 0 := by simpa using h
        omega
    · have e : (⟨(List.replicate (n : Int).toNat x.cps).foldl (· ++ ·) #[]⟩ : Str).length = ((List.replicate (n : Int).toNat x.cps).foldl (· ++ ·) #[]).toList.length := TL.len_tl _
      rw [e, fold_list]
      have e2 : x.length = x.cps.toList.length := TL.len_tl x
      simp [List.length_flatten, e2]
end K
namespace K
open PySem L2 Rp
def top (i : Nat) : Stmt := PySem.Challenge.pw_casknotes_k08_texts_of_no_weight.main.body.getD i (.Pass ⟨0, 0, 0, 0⟩)
abbrev sMade : Stmt := top 25
abbrev sNumeral : Stmt := top 26
abbrev sShow : Stmt := top 27
abbrev sWhole : Stmt := top 29
abbrev sTxI : Stmt := inClass (top 11) 0
abbrev sInit : Stmt := inClass (top 32) 0
abbrev sStr : Stmt := inClass (top 32) 2
abbrev sNumber : Stmt := top 33
abbrev sRead : Stmt := top 34
abbrev sDeck : Stmt := top 36
abbrev sDraw : Stmt := top 37
abbrev sLWhole : Stmt := top 38
abbrev sDiv : Stmt := top 39
abbrev sNumIn : Stmt := top 40
abbrev sSign : Stmt := top 41
abbrev sTwo : Stmt := top 42
abbrev sLow : Stmt := top 43
abbrev sIs : Stmt := top 44
abbrev sWritten : Stmt := top 45
abbrev sOdd : Stmt := top 46
abbrev sBent : Stmt := top 47
abbrev sMarks : Stmt := top 48
abbrev sLRead : Stmt := top 49
abbrev sHeard : Stmt := top 50
abbrev sRight : Stmt := top 51
abbrev sFixed : Stmt := top 52
abbrev sLaw : Stmt := top 53
section
variable {P : Program} {w : World} {K : PySem.W.Frag} {mg : Str → Option Value} {base : Heap}
theorem scWhole : FnScope ["thing"] ["thing"] (defScope sWhole) := ⟨rfl, rfl, rfl, by decide +kernel, rfl, by decide +kernel, by decide +kernel⟩
theorem ok_wholeV {f : Addr} {fd : FuncData} (F : Fun K "is_whole" "is_whole" sWhole f fd) (B : Blt mg) : FnOk P w K mg base CX0 1 f fd ["thing"] (spWholeV K) := by
  refine F.ok scWhole (fun vs H Q E h => ?_) (fun cdv A outer s H vs Q E hr h => ?_)
  · obtain ⟨v, rfl, _⟩ := h
    rfl
  · obtain ⟨v, rfl, ⟨tv, b1, b2, ty, k1, k2, ev⟩, k⟩ := h
    refine ⟨_, pss_one (ps_ret (pe_and (pe_callB call_isi (by rfl) B.isi (by decide +kernel) (pa_cons (pv 0) (pa_cons (pe_bltn (v := .ty "int") (by rfl) B.int (by decide +kernel) rfl) pa_nil)))
      (pe_one (pe_not (pe_callB call_isi (by rfl) B.isi (by decide +kernel) (pa_cons (pv 0) (pa_cons (pe_bltn (v := .ty "bool") (by rfl) B.bool (by decide +kernel) rfl) pa_nil))))))), ?_⟩
    refine ⟨_, rfl, _, .ty "int", _, _, b1, rfl, .ty _, ty, k1, b1, rfl, ?_⟩
    cases b1 with
    | true =>
      refine iteT ⟨_, rfl, _, .ty "bool", _, _, b2, rfl, .ty _, ty, k2, b2, rfl, ?_⟩
      rw [ev] at k
      exact k
    | false =>
      rw [ev] at k
      exact k
theorem scLWhole : FnScope ["_law_thing"] ["_law_thing"] (defScope sLWhole) := ⟨rfl, rfl, rfl, by decide +kernel, rfl, by decide +kernel, by decide +kernel⟩
theorem ok_lwholeV {f : Addr} {fd : FuncData} (F : Fun K "_law_whole" "_law_whole" sLWhole f fd) (B : Blt mg) : FnOk P w K mg base CX0 1 f fd ["_law_thing"] (spWholeV K) := by
  refine F.ok scLWhole (fun vs H Q E h => ?_) (fun cdv A outer s H vs Q E hr h => ?_)
  · obtain ⟨v, rfl, _⟩ := h
    rfl
  · obtain ⟨v, rfl, ⟨tv, b1, b2, ty, k1, k2, ev⟩, k⟩ := h
    refine ⟨_, pss_one (ps_ret (pe_and (pe_callB call_isi (by rfl) B.isi (by decide +kernel) (pa_cons (pv 0) (pa_cons (pe_bltn (v := .ty "int") (by rfl) B.int (by decide +kernel) rfl) pa_nil)))
      (pe_one (pe_not (pe_callB call_isi (by rfl) B.isi (by decide +kernel) (pa_cons (pv 0) (pa_cons (pe_bltn (v := .ty "bool") (by rfl) B.bool (by decide +kernel) rfl) pa_nil))))))), ?_⟩
    refine ⟨_, rfl, _, .ty "int", _, _, b1, rfl, .ty _, ty, k1, b1, rfl, ?_⟩
    cases b1 with
    | true =>
      refine iteT ⟨_, rfl, _, .ty "bool", _, _, b2, rfl, .ty _, ty, k2, b2, rfl, ?_⟩
      rw [ev] at k
      exact k
    | false =>
      rw [ev] at k
      exact k
theorem scDeck : FnScope ["_law_cell"] ["_law_cell"] (defScope sDeck) := ⟨rfl, rfl, rfl, by decide +kernel, rfl, by decide +kernel, by decide +kernel⟩
theorem ok_deck {f : Addr} {fd : FuncData} (F : Fun K "_law_deck" "_law_deck" sDeck f fd) (B : Blt mg) : FnOk P w K mg base CX0 1 f fd ["_law_cell"] spDeck := by
  refine F.ok scDeck (fun vs H Q E h => ?_) (fun cdv A outer s H vs Q E hr h => ?_)
  · obtain ⟨n, rfl, _⟩ := h
    rfl
  · obtain ⟨n, rfl, k⟩ := h
    refine ⟨_, pss_one (ps_ret (pe_lst (pa_cons (pe_op op_mul (pv 0) (pe_callTy call_int1 (by rfl) B.int (by decide +kernel) (pa_cons (pe_cmpR op_ge (pv 0) (pe_op op_pow pe_int pe_int) (nomark _)) pa_nil)))
      (pa_cons (pe_op op_mod (pv 0) pe_int) (pa_cons pe_int pa_nil))))), ?_⟩
    refine ⟨_, rfl, _, rfl, _, _, rfl, rfl, (by show (0:Int) ≤ 18 ∧ (18:Int) ≤ 1000000 ∧ (10:Int).natAbs < 2 ^ 64; decide), _, _, rfl, rfl, .inr ⟨_, rfl, ?_⟩⟩
    refine ⟨_, _, rfl, rfl, .inr (by split <;> decide), ?_⟩
    refine ⟨_, rfl, _, _, rfl, rfl, (by show (0:Int) < 2147483587; decide), ?_⟩
    refine ⟨(by show 3 ≤ sizeLine; decide), fun p hp => ?_⟩
    exact k p hp _ ⟨_, _, _, upd_same⟩ fun b hb => upd_ne hb
theorem scDraw : FnScope ["_law_deck_here", "_law_most", "_law_got", "_law_mixed"] ["_law_deck_here", "_law_most"] (defScope sDraw) := ⟨rfl, rfl, rfl, by decide +kernel, rfl, by decide +kernel, by decide +kernel⟩
theorem ok_draw {f : Addr} {fd : FuncData} (F : Fun K "_law_draw" "_law_draw" sDraw f fd) : FnOk P w K mg base CX0 1 f fd ["_law_deck_here", "_law_most"] spDraw := by
  refine F.ok scDraw (fun vs H Q E h => ?_) (fun cdv A outer s H vs Q E hr h => ?_)
  · obtain ⟨d, m, rfl, _⟩ := h
    rfl
  · obtain ⟨d, m, rfl, h0, h1, ⟨a, b, c, hd⟩, k⟩ := h
    refine ⟨_, pss_cons (ps_if (pt_cmpR op_gt (pe_ix ix_list (pv 0) pe_int (fun _ _ => rfl)) pe_int (nomark _))
        (pss_cons (ps_set (i := 2) scDraw.nd rfl (Or.inl rfl) (pe_op op_modN (pe_ix ix_list (pv 0) pe_int (fun _ _ => rfl)) (pv 1)))
        (pss_cons (ps_asg (pe_op op_fdivN (pe_ix ix_list (pv 0) pe_int (fun _ _ => rfl)) (pv 1)) (pg_sub (pv 0) pe_int set_list))
        (pss_one (ps_ret (pv 2))))) pss_nil)
      (pss_cons (ps_asg (pe_op op_add (pe_ix ix_list (pv 0) pe_int (fun _ _ => rfl)) pe_int) (pg_sub (pv 0) pe_int set_list))
      (pss_cons (ps_set (i := 3) scDraw.nd rfl (Or.inl rfl) (pe_op op_mod (pe_op op_mul (pe_op op_add (pe_op op_add (pe_ix ix_list (pv 0) pe_int (fun _ _ => rfl)) (pe_op op_mul pe_int (pe_ix ix_list (pv 0) pe_int (fun _ _ => rfl)))) pe_int) pe_int) pe_int))
      (pss_cons (ps_set (i := 3) scDraw.nd rfl (Or.inl rfl) (pe_op op_mod (pe_op op_add (pe_op op_add (pe_op op_mul (pv 3) (pv 3)) (pe_op op_mul pe_int (pv 3))) (pe_ix ix_list (pv 0) pe_int (fun _ _ => rfl))) pe_int))
      (pss_one (ps_ret (pe_op op_modN (pe_op op_fdiv (pe_op op_mod (pe_op op_mul (pv 3) pe_int) pe_int) pe_int) (pv 1))))))), ?_⟩
    refine ⟨_, rfl, d, _, _, _, rfl, rfl, SqL.of hd, ix3.1, _, _, rfl, rfl, _, rfl, ?_⟩
    refine ite2 (fun _ => ?_) (fun _ => ?_)
    · refine ⟨_, rfl, d, _, _, _, rfl, rfl, SqL.of hd, ix3.1, _, rfl, _, _, rfl, rfl, (by show m ≠ 0; omega), ?_⟩
      refine ⟨_, rfl, d, _, _, _, rfl, rfl, SqL.of hd, ix3.1, _, rfl, _, _, rfl, rfl, ⟨by omega, by omega⟩, ?_⟩
      refine ⟨_, rfl, d, _, _, 0, rfl, rfl, hd, rfl, ?_⟩
      refine ⟨_, rfl, ?_⟩
      exact k _ (Int.fmod_nonneg_of_pos a h0) (Int.fmod_lt_of_pos a h0) _ ⟨_, _, _, upd_same⟩ fun b hb => upd_ne hb
    · refine ⟨_, rfl, d, _, _, _, rfl, rfl, SqL.of hd, ix3.2.2, _, _, rfl, rfl, ?_⟩
      refine ⟨_, rfl, d, _, _, 2, rfl, rfl, hd, rfl, ?_⟩
      have hd2 : (upd H d (.lst ([V.int a, V.int b, V.int c].set 2 (.int (c + 1))))) d = some (.lst [.int a, .int b, .int (c + 1)]) := upd_same
      refine ⟨_, rfl, d, _, _, _, rfl, rfl, SqL.of hd2, ix3.2.1, _, rfl, d, _, _, _, rfl, rfl, SqL.of hd2, ix3.2.2, _, _, rfl, rfl, .inl (by decide), _, _, rfl, rfl, _, _, rfl, rfl, _, _, rfl, rfl, .inr (by decide), _, _, rfl, rfl, (by show (0:Int) < 2147483647; decide), ?_⟩
      refine ⟨_, rfl, _, rfl, _, _, rfl, rfl, .inl ⟨by omega, by omega⟩, _, rfl, _, _, rfl, rfl, .inl (by decide), _, _, rfl, rfl, _, rfl, d, _, _, _, rfl, rfl, SqL.of hd2, ix3.2.2, _, _, rfl, rfl, _, _, rfl, rfl, (by show (0:Int) < 2147483629; decide), ?_⟩
      refine ⟨_, rfl, _, _, rfl, rfl, .inr (by decide), _, _, rfl, rfl, (by show (0:Int) < 2147483563; decide), _, _, rfl, rfl, ⟨by decide, by decide⟩, _, rfl, _, _, rfl, rfl, (by show m ≠ 0; omega), ?_⟩
      exact k _ (Int.fmod_nonneg_of_pos _ h0) (Int.fmod_lt_of_pos _ h0) _ ⟨_, _, _, hd2⟩ fun b hb => upd_ne hb
theorem scDiv : FnScope ["_law_one", "_law_other"] ["_law_one", "_law_other"] (defScope sDiv) := ⟨rfl, rfl, rfl, by decide +kernel, rfl, by decide +kernel, by decide +kernel⟩
theorem ok_div {f : Addr} {fd : FuncData} (F : Fun K "_law_divides" "_law_divides" sDiv f fd) (hab : mg "abs" = none) : FnOk P w K mg base CX0 1 f fd ["_law_one", "_law_other"] spDiv := by
  refine F.ok scDiv (fun vs H Q E h => ?_) (fun cdv A outer s H vs Q E hr h => ?_)
  · obtain ⟨a, b, rfl, _⟩ := h
    rfl
  · obtain ⟨a, b, rfl, ha, hb, k⟩ := h
    refine ⟨_, pss_cons (ps_par (i := 0) (j := 1) rfl scDiv.nd rfl rfl (by decide) rfl rfl (pa_cons (pe_callB call_abs (by rfl) hab (by decide +kernel) (pa_cons (pv 0) pa_nil)) (pa_cons (pe_callB call_abs (by rfl) hab (by decide +kernel) (pa_cons (pv 1) pa_nil)) pa_nil)) (by rfl))
      (pss_cons (ps_while PassesOwn.never (pt_cmpR op_gt (pv 1) pe_int (nomark _)) (pss_one (ps_par (i := 0) (j := 1) rfl scDiv.nd rfl rfl (by decide) rfl rfl (pa_cons (pv 1) (pa_cons (pe_op op_modN (pv 0) (pv 1)) pa_nil)) (by rfl))))
      (pss_one (ps_ret (pv 0)))), ?_⟩
    refine ⟨_, rfl, _, rfl, _, rfl, _, rfl, _, _, rfl, ?_⟩
    rw [if_neg (show ¬ a < 0 by omega), if_neg (show ¬ b < 0 by omega)]
    refine while_by (fun σ H' => H' = H ∧ ∃ c d : Int, σ = [some (.int c), some (.int d)] ∧ 0 ≤ c ∧ 0 ≤ d ∧ Int.gcd c d = Int.gcd a b) (fun σ _ => match σ with | [_, some (.int d)] => d.toNat | _ => 0)
      ⟨rfl, a, b, rfl, ha, hb, rfl⟩ ?_ ?_
    · rintro σ H' ⟨rfl, c, d, rfl, hc, hd, hg⟩
      refine ⟨_, rfl, _, _, rfl, rfl, _, rfl, ?_⟩
      refine ite2 (fun h => ?_) (fun h => ?_)
      · have h' : 0 < d := by simpa using h
        refine ⟨_, rfl, _, rfl, _, rfl, _, _, rfl, rfl, (by show d ≠ 0; omega), _, _, rfl, ?_⟩
        have e : c.fmod d = c % d := Int.fmod_eq_emod_of_nonneg c (by omega)
        have e0 := Int.emod_nonneg c (by omega : d ≠ 0)
        have e1 := Int.emod_lt_of_pos c h'
        refine ⟨⟨rfl, d, c.fmod d, rfl, by omega, by omega, ?_⟩, ?_⟩
        · rw [← hg, e]
          exact gcd_turn hc hd
        · show (c.fmod d).toNat < d.toNat
          omega
      · have h' : d = 0 := by
          have : ¬ 0 < d := by simpa using h
          omega
        subst h'
        refine ⟨_, rfl, ?_⟩
        have e : c = ((Int.gcd a b : Nat) : Int) := by rw [← hg, Int.gcd_zero_right]; omega
        rw [e]
        exact k
    · rintro σ H' Q1 Q2 hQ ⟨v, e, i, j, h1, h2, c, h3, q⟩
      exact ⟨v, e, i, j, h1, h2, c, h3, hQ _ _ q⟩
theorem scShow : FnScope ["number", "blocks", "low"] ["number"] (defScope sShow) := ⟨rfl, rfl, rfl, by decide +kernel, rfl, by decide +kernel, by decide +kernel⟩
theorem ok_show {f : Addr} {fd : FuncData} {z : Int} {zt : Tok} (F : Fun K "show_whole" "show_whole" sShow f fd) (hst : mg "str" = none) (hrv : mg "reversed" = none) (hB : mg "BLOCK" = some (.int z zt)) (hz : (2 : Int) ^ 1600 ≤ z) :
    FnOk P w K mg base CX0 1 f fd ["number"] spShow := by
  refine F.ok scShow (fun vs H Q E h => ?_) (fun cdv A outer s H vs Q E hr h => ?_)
  · obtain ⟨n, rfl, _⟩ := h
    rfl
  · obtain ⟨n, rfl, n0, nz, k⟩ := h
    refine ⟨_, pss_cons (ps_set (i := 1) scShow.nd rfl (Or.inl rfl) (pe_lst pa_nil))
      (pss_cons (ps_while PassesOwn.never (pt_cmpR op_ge (pv 0) (pe_glob (v := .int z) rfl hB ⟨_, rfl⟩) (nomark _)) pss_never)
      (pss_cons (ps_expr (pe_bm PySem.F.plainAttrs_list PySem.F.slot_list_append PySem.F.type_list_append mt_append (pv 1) (pa_cons (pe_callTy call_str_int (by rfl) hst (by decide +kernel) (pa_cons (pv 0) pa_nil)) pa_nil)))
      (pss_one (ps_ret (pe_joinRev rfl (by rfl) hrv pe_str (pv 1)))))), ?_⟩
    refine ⟨Nat.zero_le _, fun l hl => ?_⟩
    have hlt : ¬ z ≤ n := by
      have h1 : n.natAbs < 2 ^ 1600 := nz
      have h2 : (n.natAbs : Int) = n := by omega
      have h3 : ((2 ^ 1600 : Nat) : Int) = (2 : Int) ^ 1600 := by norm_cast
      have h4 : (n.natAbs : Int) < ((2 ^ 1600 : Nat) : Int) := Int.ofNat_lt.mpr h1
      rw [h2, h3] at h4
      exact Int.not_le.mpr (Int.lt_of_lt_of_le h4 hz)
    refine while_by (fun σ H' => H' = upd H l (.lst []) ∧ σ = [some (.int n), some (.ref l), none]) (fun _ _ => 0) ⟨rfl, rfl⟩ ?_ ?_
    · rintro σ H' ⟨rfl, rfl⟩
      refine ⟨_, rfl, _, _, rfl, rfl, _, rfl, ?_⟩
      rw [decide_eq_false hlt]
      refine iteF ?_
      refine ⟨_, rfl, .inl ⟨rfl, _, SqL.of upd_same⟩, _, rfl, _, rfl, Nat.lt_trans (nz.log (by decide)) (by decide), l, _, _, rfl, rfl, upd_same, by decide, ?_⟩
      have ln := nT_len nz
      refine ⟨"", rfl, _, rfl, l, [nT n], rfl, SqL.of upd_same, ?_, ?_⟩
      · simp only [List.map_cons, List.map_nil, List.sum_cons, List.sum_nil, List.length_cons, List.length_nil]
        have e0 : ("" : Str).length = 0 := by decide +kernel
        rw [e0]
        omega
      · refine k _ fun b o e => ?_
        rw [upd_ne (ne_of_none e hl), upd_ne (ne_of_none e hl)]
        exact e
    · rintro σ H' Q1 Q2 hQ ⟨v, e, i, j, h1, h2, c, h3, q⟩
      exact ⟨v, e, i, j, h1, h2, c, h3, hQ _ _ q⟩
theorem scMade : FnScope ["text", "signs", "sign"] ["text", "signs"] (defScope sMade) := ⟨rfl, rfl, rfl, by decide +kernel, rfl, by decide +kernel, by decide +kernel⟩
theorem ok_made {f : Addr} {fd : FuncData} (F : Fun K "made_of" "made_of" sMade f fd) (hal : mg "all" = none) : FnOk P w K mg base CX0 1 f fd ["text", "signs"] spMade := by
  refine F.ok scMade (fun vs H Q E h => ?_) (fun cdv A outer s H vs Q E hr h => ?_)
  · obtain ⟨z, y, rfl, _⟩ := h
    rfl
  · obtain ⟨z, y, rfl, hz, k⟩ := h
    refine ⟨_, (pss_one (ps_ret (pe_callB (cr_all rfl) (by rfl) hal (by decide +kernel) (pa_cons (pe_lc (own := [("sign", 2)]) (g := gName 2) (tt := tYes) (by rfl) scMade.nd (pi_str (pv 0)) (blkOk_by (own := [("sign", 2)]) (N := ["text", "signs", "sign"]) (sc := defScope sMade) (by decide +kernel)) (fun _ _ _ _ _ => (pg_name (i := 2) scMade.nd rfl (Or.inl rfl))) (fun _ _ _ _ _ => pts_nil) (fun _ _ _ _ _ => (pe_cmpR op_in_sign (pv 2) (pv 1) (by with_unfolding_all rfl)))) pa_nil)))), ?_⟩
    refine ⟨_, rfl, z, rfl, fun D hD => ?_⟩
    refine lc_str (fun i H2 => Same H H2 ∧ H2 D = some (.lst (((z.cps.toList.map (inL y)).take i).map V.bl))) ?_ ?_ ?_
    · exact ⟨same_upd hD, upd_same⟩
    · rintro i c H2 hc ⟨s2, hA⟩
      have hi : i < z.cps.size := (Array.getElem?_eq_some_iff.mp hc).1
      have hc' : z.cps.toList[i]? = some c := by rw [Array.getElem?_toList]; exact hc
      refine ⟨rfl, tYes_of ?_⟩
      rw [if_pos rfl]
      refine ⟨_, rfl, _, rfl, c, y, rfl, rfl, _, hA, ?_, ?_, ?_⟩
      · rw [List.length_map, List.length_take]
        exact Nat.lt_of_le_of_lt (Nat.min_le_left _ _) (Nat.lt_of_lt_of_le hi (Nat.le_trans hz (by decide)))
      · exact fun y o e => by
          rw [upd_ne (ne_of_none e hD)]
          exact s2 y o e
      · rw [upd_same, List.take_add_one, List.getElem?_map, hc', List.map_append]
        rfl
    · rintro H2 ⟨s2, hA⟩
      have e : (z.cps.toList.map (inL y)).take z.cps.size = z.cps.toList.map (inL y) := List.take_of_length_le (by rw [List.length_map]; simp)
      rw [e] at hA
      refine ⟨D, z.cps.toList.map (inL y), rfl, SqL.of hA, ?_⟩
      have e2 : (z.cps.toList.map (inL y)).all id = z.cps.toList.all (inL y) := by rw [List.all_map]; rfl
      rw [e2]
      exact k H2 s2
theorem scTwo : FnScope ["_law_deck_here", "_law_way", "_law_top", "_law_bottom", "_law_k"] ["_law_deck_here"] (defScope sTwo) := ⟨rfl, rfl, rfl, by decide +kernel, rfl, by decide +kernel, by decide +kernel⟩
theorem ok_two {f fD : Addr} {fd fdD : FuncData} (F : Fun K "_law_two" "_law_two" sTwo f fd) (hmx : mg "max" = none) (hrg : mg "range" = none) (cD : Cl K mg "_law_draw" fD fdD ["_law_deck_here", "_law_most"])
    (GD : FnOk P w K mg base CX0 1 fD fdD ["_law_deck_here", "_law_most"] spDraw) : FnOk P w K mg base CX0 2 f fd ["_law_deck_here"] spTwo := by
  refine F.ok scTwo (fun vs H Q E h => ?_) (fun cdv A outer s H vs Q E hr h => ?_)
  · obtain ⟨d, rfl, _⟩ := h
    rfl
  · obtain ⟨d, rfl, hd, k⟩ := h
    refine ⟨_, pss_cons (ps_set (i := 1) scTwo.nd rfl (Or.inl rfl) (pe_call GD hr (by rfl) cD.g cD.k cD.b .nil pass0 (pa_cons (pv 0) (pa_cons pe_int pa_nil))))
      (pss_cons (ps_if (pt_cmpR op_eq (pv 1) pe_int (nomark _))
        (pss_cons (ps_asg (pe_lc (own := [("_law_k", 4)]) (g := gName 4) (tt := tYes) (by rfl) scTwo.nd (pi_range1 (by rfl) hrg (pa_cons pe_int pa_nil)) (blkOk_by (own := [("_law_k", 4)]) (N := ["_law_deck_here", "_law_way", "_law_top", "_law_bottom", "_law_k"]) (sc := defScope sTwo) (by decide +kernel))
            (fun _ _ _ _ _ => pg_name (i := 4) scTwo.nd rfl (Or.inl rfl)) (fun _ _ _ _ _ => pts_nil)
            (fun _ _ _ _ _ => pe_op op_add (pe_op op_mul (pe_call GD hr (by rfl) cD.g cD.k cD.b .nil pass0 (pa_cons (pv 0) (pa_cons (pe_op op_pow pe_int pe_int) pa_nil))) (pe_op op_pow pe_int pe_int)) (pe_call GD hr (by rfl) cD.g cD.k cD.b .nil pass0 (pa_cons (pv 0) (pa_cons (pe_op op_pow pe_int pe_int) pa_nil)))))
          (pg_unl rfl (pgs_cons (pg_name (i := 2) scTwo.nd rfl (Or.inl rfl)) (pgs_cons (pg_name (i := 3) scTwo.nd rfl (Or.inl rfl)) pgs_nil))))
        (pss_one (ps_ret (pe_tup (pa_cons (pv 2) (pa_cons (pe_callB (call_max2 rfl) (by rfl) hmx (by decide +kernel) (pa_cons pe_int (pa_cons (pv 3) pa_nil))) pa_nil)))))) pss_nil)
      (pss_cons (ps_if (pt_cmpR op_lt (pv 1) pe_int (nomark _)) (pss_one (ps_ret (pe_tup (pa_cons (pe_call GD hr (by rfl) cD.g cD.k cD.b .nil pass0 (pa_cons (pv 0) (pa_cons pe_int pa_nil))) (pa_cons pe_int pa_nil))))) pss_nil)
      (pss_cons (ps_if (pt_cmpR op_lt (pv 1) pe_int (nomark _)) (pss_one (ps_ret (pe_tup (pa_cons (pe_call GD hr (by rfl) cD.g cD.k cD.b .nil pass0 (pa_cons (pv 0) (pa_cons pe_int pa_nil))) (pa_cons (pe_op op_add pe_int (pe_call GD hr (by rfl) cD.g cD.k cD.b .nil pass0 (pa_cons (pv 0) (pa_cons pe_int pa_nil)))) pa_nil))))) pss_nil)
      (pss_cons (ps_if (pt_cmpR op_eq (pv 1) pe_int (nomark _)) (pss_one (ps_ret (pe_ix ix_list (pe_lst (pa_cons (pe_tup (pa_cons pe_int (pa_cons pe_int pa_nil))) (pa_cons (pe_tup (pa_cons pe_int (pa_cons pe_int pa_nil))) (pa_cons (pe_tup (pa_cons pe_int (pa_cons pe_int pa_nil))) (pa_cons (pe_tup (pa_cons pe_int (pa_cons pe_int pa_nil))) pa_nil)))))
          (pe_call GD hr (by rfl) cD.g cD.k cD.b .nil pass0 (pa_cons (pv 0) (pa_cons pe_int pa_nil))) (fun _ _ => rfl)))) pss_nil)
      (pss_one (ps_ret (pe_tup (pa_cons (pe_call GD hr (by rfl) cD.g cD.k cD.b .nil pass0 (pa_cons (pv 0) (pa_cons (pe_op op_add (pe_op op_pow pe_int pe_int) pe_int) pa_nil))) (pa_cons (pe_op op_add pe_int (pe_call GD hr (by rfl) cD.g cD.k cD.b .nil pass0 (pa_cons (pv 0) (pa_cons (pe_op op_pow pe_int pe_int) pa_nil)))) pa_nil))))))))), ?_⟩
    have p6 : CPow (10 : Int) (6 : Int) := (by show (0:Int) ≤ 6 ∧ (6:Int) ≤ 1000000 ∧ (10:Int).natAbs < 2 ^ 64; decide)
    have m6 : (10 : Int) ^ (6 : Int).toNat = 1000000 := by decide
    have m7 : (10 : Int) ^ (6 : Int).toNat + 1 = 1000001 := by decide
    have pair : ∀ (H3 : Hp) (t b : Int), 0 ≤ t → t ≤ 1000000000000 → 0 < b → b ≤ 1000000000000 → DeckAt H3 d → Fw d H H3 → ∀ p, H3 p = none → Q (.ref p) (upd H3 p (.tup [.int t, .int b])) := fun H3 t b t0 t1 b0 b1 d3 f3 p hp =>
      k p t b _ t0 t1 b0 b1 (f3.nn p hp) upd_same (d3.upd hp) (f3.trans (Fw.upd hp))
    refine ⟨_, rfl, d, 9, rfl, by decide, by decide, hd, fun r r0 r1 H1 d1 e1 => ?_⟩
    have f1 := Fw.draw d1 e1
    refine ⟨_, rfl, rfl, _, rfl, ?_⟩
    refine ite2 (fun _ => ?_) (fun _ => ?_)
    · refine ⟨2, rfl, by decide, by decide, fun D hD => ?_⟩
      refine lc_range (lo := 0) (n := 2) (fun i H2 => ∃ acc : List V, H2 D = some (.lst acc) ∧ acc.length = i ∧ (∀ v ∈ acc, ∃ n : Int, v = .int n ∧ 0 ≤ n ∧ n ≤ 1000000000000) ∧ DeckAt H2 d ∧ Fw d H H2) ?_ ?_ ?_
      · exact ⟨[], upd_same, rfl, fun v hv => absurd hv (by simp), d1.upd hD, f1.trans (Fw.upd hD)⟩
      · rintro i H2 hi ⟨acc, hA, hl, hall, d2, f2⟩
        have nD : D ≠ d := d1.ne hD
        refine ⟨rfl, tYes_of ?_⟩
        rw [if_pos rfl]
        refine ⟨_, rfl, _, _, rfl, rfl, p6, d, _, rfl, by rw [m6]; decide, by rw [m6]; decide, d2, fun q q0 q1 H3 d3 e3 => ?_⟩
        refine ⟨_, _, rfl, rfl, p6, _, _, rfl, rfl, .inr (by rw [m6]; decide), ?_⟩
        refine ⟨_, rfl, _, _, rfl, rfl, p6, d, _, rfl, by rw [m6]; decide, by rw [m6]; decide, d3, fun u u0 u1 H4 d4 e4 => ?_⟩
        rw [m6] at q1 u1
        refine ⟨_, _, rfl, rfl, acc, by rw [e4 D nD, e3 D nD]; exact hA, small1000 (by omega), ?_⟩
        have f4 : Fw d H H4 := (f2.trans (Fw.draw d3 e3)).trans (Fw.draw d4 e4)
        have hD0 : H D = none := f1.nn D hD
        refine ⟨acc ++ [_], upd_same, by rw [List.length_append, hl]; rfl, fun v hv => ?_, ?_, ?_⟩
        · rcases List.mem_append.mp hv with z | z
          · exact hall v z
          · have z' := List.mem_singleton.mp z
            refine ⟨_, z', ?_, ?_⟩
            · rw [m6]; omega
            · rw [m6]; omega
        · obtain ⟨a, b, c, h⟩ := d4
          exact ⟨a, b, c, by rw [upd_ne (Ne.symm nD)]; exact h⟩
        · refine ⟨fun q o n h => ?_, fun q h => ?_⟩
          · rw [upd_ne (ne_of_none h hD0)]
            exact f4.kp q o n h
          · by_cases z : q = D
            · rw [z, upd_same] at h; cases h
            · rw [upd_ne z] at h
              exact f4.nn q h
      · rintro H2 ⟨acc, hA, hl, hall, d2, f2⟩
        obtain ⟨v1, v2, rfl⟩ : ∃ v1 v2, acc = [v1, v2] := by
          match acc, hl with
          | [v1, v2], _ => exact ⟨v1, v2, rfl⟩
        obtain ⟨t, rfl, t0, t1⟩ := hall v1 (by simp)
        obtain ⟨b, rfl, b0, b1⟩ := hall v2 (by simp)
        refine ⟨D, _, rfl, SqL.of hA, rfl, _, _, rfl, _, _, rfl, rfl, ?_⟩
        refine ⟨_, rfl, _, rfl, 1, b, rfl, (by show 2 ≤ sizeLine; decide), fun p hp => ?_⟩
        refine pair H2 t _ t0 t1 ?_ ?_ d2 f2 p hp
        · split <;> omega
        · split <;> omega
    · refine ⟨_, rfl, _, _, rfl, rfl, _, rfl, ?_⟩
      refine ite2 (fun _ => ?_) (fun _ => ?_)
      · refine ⟨_, rfl, d, 30, rfl, by decide, by decide, d1, fun q q0 q1 H3 d3 e3 => ⟨(by show 2 ≤ sizeLine; decide), fun p hp => ?_⟩⟩
        exact pair H3 q 1 q0 (by omega) (by decide) (by decide) d3 (f1.trans (Fw.draw d3 e3)) p hp
      · refine ⟨_, rfl, _, _, rfl, rfl, _, rfl, ?_⟩
        refine ite2 (fun _ => ?_) (fun _ => ?_)
        · refine ⟨_, rfl, d, 60, rfl, by decide, by decide, d1, fun q q0 q1 H3 d3 e3 => ?_⟩
          refine ⟨_, rfl, d, 12, rfl, by decide, by decide, d3, fun u u0 u1 H4 d4 e4 => ⟨_, _, rfl, rfl, (by show 2 ≤ sizeLine; decide), fun p hp => ?_⟩⟩
          exact pair H4 q (1 + u) q0 (by omega) (by omega) (by omega) d4 ((f1.trans (Fw.draw d3 e3)).trans (Fw.draw d4 e4)) p hp
        · refine ⟨_, rfl, rfl, _, rfl, ?_⟩
          refine ite2 (fun _ => ?_) (fun _ => ?_)
          · refine ⟨(by show 2 ≤ sizeLine; decide), fun pa ha => ⟨(by show 2 ≤ sizeLine; decide), fun pb hb => ⟨(by show 2 ≤ sizeLine; decide), fun pc hc => ⟨(by show 2 ≤ sizeLine; decide), fun pe he => ⟨(by show 4 ≤ sizeLine; decide), fun l hl => ?_⟩⟩⟩⟩⟩
            have da := d1.upd (o := .tup [.int 0, .int 1]) ha
            have db := da.upd (o := .tup [.int 0, .int 7]) hb
            have dc := db.upd (o := .tup [.int 1, .int 1]) hc
            have de := dc.upd (o := .tup [.int 1, .int 2]) he
            have dl := de.upd (o := .lst [.ref pa, .ref pb, .ref pc, .ref pe]) hl
            have fa : Fw d _ _ := Fw.upd (o := .tup [.int 0, .int 1]) ha
            have fb : Fw d _ _ := Fw.upd (o := .tup [.int 0, .int 7]) hb
            have fc : Fw d _ _ := Fw.upd (o := .tup [.int 1, .int 1]) hc
            have fe : Fw d _ _ := Fw.upd (o := .tup [.int 1, .int 2]) he
            have fl : Fw d _ _ := Fw.upd (o := .lst [.ref pa, .ref pb, .ref pc, .ref pe]) hl
            refine ⟨_, rfl, d, 4, rfl, by decide, by decide, dl, fun q q0 q1 H3 d3 e3 => ?_⟩
            have f3 := Fw.draw d3 e3
            have all := f1.trans ((((((fa.trans fb).trans fc).trans fe).trans fl)).trans f3)
            have h3 : H3 l = some (.lst [.ref pa, .ref pb, .ref pc, .ref pe]) := (e3 l (de.ne hl)).trans upd_same
            have h4 : q = 0 ∨ q = 1 ∨ q = 2 ∨ q = 3 := by omega
            rcases h4 with rfl | rfl | rfl | rfl
            · exact ⟨l, _, _, .ref pa, rfl, rfl, SqL.of h3, rfl, k pa 0 1 H3 (by decide) (by decide) (by decide) (by decide) (f1.nn _ ha) (((((fb.trans fc).trans fe).trans fl).trans f3).kp _ _ (d1.ne ha) upd_same) d3 all⟩
            · exact ⟨l, _, _, .ref pb, rfl, rfl, SqL.of h3, rfl, k pb 0 7 H3 (by decide) (by decide) (by decide) (by decide) ((f1.trans fa).nn _ hb) ((((fc.trans fe).trans fl).trans f3).kp _ _ (da.ne hb) upd_same) d3 all⟩
            · exact ⟨l, _, _, .ref pc, rfl, rfl, SqL.of h3, rfl, k pc 1 1 H3 (by decide) (by decide) (by decide) (by decide) (((f1.trans fa).trans fb).nn _ hc) (((fe.trans fl).trans f3).kp _ _ (db.ne hc) upd_same) d3 all⟩
            · exact ⟨l, _, _, .ref pe, rfl, rfl, SqL.of h3, rfl, k pe 1 2 H3 (by decide) (by decide) (by decide) (by decide) ((((f1.trans fa).trans fb).trans fc).nn _ he) ((fl.trans f3).kp _ _ (dc.ne he) upd_same) d3 all⟩
          · refine ⟨_, rfl, _, _, rfl, rfl, p6, _, _, rfl, rfl, d, _, rfl, by rw [m6]; decide, by rw [m6]; decide, d1, fun q q0 q1 H3 d3 e3 => ?_⟩
            refine ⟨_, rfl, _, _, rfl, rfl, p6, d, _, rfl, by rw [m6]; decide, by rw [m6]; decide, d3, fun u u0 u1 H4 d4 e4 => ⟨_, _, rfl, rfl, (by show 2 ≤ sizeLine; decide), fun p hp => ?_⟩⟩
            rw [m6] at q1 u1
            exact pair H4 q (1 + u) q0 (by omega) (by omega) (by omega) d4 ((f1.trans (Fw.draw d3 e3)).trans (Fw.draw d4 e4)) p hp
theorem scLow : FnScope ["_law_top", "_law_bottom", "_law_by"] ["_law_top", "_law_bottom"] (defScope sLow) := ⟨rfl, rfl, rfl, by decide +kernel, rfl, by decide +kernel, by decide +kernel⟩
theorem ok_low {f fD : Addr} {fd fdD : FuncData} (F : Fun K "_law_lowest" "_law_lowest" sLow f fd) (cD : Cl K mg "_law_divides" fD fdD ["_law_one", "_law_other"]) (GD : FnOk P w K mg base CX0 1 fD fdD ["_law_one", "_law_other"] spDiv) :
    FnOk P w K mg base CX0 2 f fd ["_law_top", "_law_bottom"] spLow := by
  refine F.ok scLow (fun vs H Q E h => ?_) (fun cdv A outer s H vs Q E hr h => ?_)
  · obtain ⟨t, b, rfl, _⟩ := h
    rfl
  · obtain ⟨t, b, rfl, ht, hb, hz, k⟩ := h
    refine ⟨_, pss_cons (ps_set (i := 2) scLow.nd rfl (Or.inl rfl) (pe_call GD hr (by rfl) cD.g cD.k cD.b .nil pass0 (pa_cons (pv 0) (pa_cons (pv 1) pa_nil))))
      (pss_one (ps_ret (pe_tup (pa_cons (pe_op op_fdivW (pv 0) (pv 2)) (pa_cons (pe_op op_fdivW (pv 1) (pv 2)) pa_nil))))), ?_⟩
    have hg := gcd_pos (t := t) hb
    have hgz : ∀ i, CDivW i ((Int.gcd t b : Nat) : Int) := fun i => ⟨hg, Nat.lt_trans ((Sz.gcd (t := t) hz hb).log (by decide)) (by decide)⟩
    refine ⟨_, rfl, _, rfl, t, b, rfl, ht, Int.le_of_lt hb, ?_⟩
    refine ⟨_, rfl, _, rfl, _, _, rfl, rfl, hgz _, _, rfl, _, rfl, _, _, rfl, rfl, hgz _, (by show 2 ≤ sizeLine; decide), fun p hp => ?_⟩
    exact k p hp
theorem scIs : FnScope ["_law_found", "_law_top", "_law_bottom"] ["_law_found", "_law_top", "_law_bottom"] (defScope sIs) := ⟨rfl, rfl, rfl, by decide +kernel, rfl, by decide +kernel, by decide +kernel⟩
theorem ok_is {f C fW fL fN : Addr} {fd fdL fdN : FuncData} (F : Fun K "_law_is" "_law_is" sIs f fd) (T : WTxt K mg C fW) (B : Blt mg) (N : WIns K C)
    (cW : Cl K mg "_law_whole" fN fdN ["_law_thing"]) (GW : FnOk P w K mg base CX0 1 fN fdN ["_law_thing"] (spWhole K)) (cL : Cl K mg "_law_lowest" fL fdL ["_law_top", "_law_bottom"]) (GL : FnOk P w K mg base CX0 2 fL fdL ["_law_top", "_law_bottom"] spLow) :
    FnOk P w K mg base CX0 3 f fd ["_law_found", "_law_top", "_law_bottom"] (spIs C) := by
  refine F.ok scIs (fun vs H Q E h => ?_) (fun cdv A outer s H vs Q E hr h => ?_)
  · obtain ⟨p, t, b, rfl, _⟩ := h
    rfl
  · obtain ⟨p, t, b, rfl, ht, hb, hz, ⟨dx, hp⟩, k⟩ := h
    have hr1 : Room 1 _ := hr.mono (by decide)
    refine ⟨_, pss_cons (ps_if (PW.pt (pw_or (pt_not (pt_val (pe_callB call_isi (by rfl) B.isi (by decide +kernel) (pa_cons (pv 0) (pa_cons (pe_glob (v := .ref C) rfl T.mgC rfl) pa_nil)))))
          (pw_or (pt_not (pt_val (pe_call GW hr1 (by rfl) cW.g cW.k cW.b .nil pass0 (pa_cons (pe_fld (pv 0) rfl) pa_nil))))
          (pw_or1 (pt_not (pt_val (pe_call GW hr1 (by rfl) cW.g cW.k cW.b .nil pass0 (pa_cons (pe_fld (pv 0) rfl) pa_nil)))))))) (pss_one (ps_ret pe_bl)) pss_nil)
      (pss_one (ps_ret (pe_cmpR (op_eqD hr.units) (pe_tup (pa_cons (pe_fld (pv 0) rfl) (pa_cons (pe_fld (pv 0) rfl) pa_nil))) (pe_call GL hr (by rfl) cL.g cL.k cL.b .nil pass0 (pa_cons (pv 1) (pa_cons (pv 2) pa_nil))) (nomark _)))), ?_⟩
    refine ⟨_, rfl, _, .ref C, _, _, true, rfl, .own _, .base (.ins hp T.cl N.ha N.hn N.htk N.hm), kit_self, true, rfl, iteF ?_⟩
    refine ⟨_, rfl, p, C, dx, _, _, rfl, hp, T.cl, T.nT, wf_top _ _, _, rfl, true, rfl, iteF ?_⟩
    refine ⟨_, rfl, p, C, dx, _, _, rfl, hp, T.cl, T.nB, wf_bottom _ _, _, rfl, true, rfl, iteF ?_⟩
    refine ⟨_, rfl, p, C, dx, _, _, rfl, hp, T.cl, T.nT, wf_top _ _, _, rfl, p, C, dx, _, _, rfl, hp, T.cl, T.nB, wf_bottom _ _, (by show 2 ≤ sizeLine; decide), fun a ha => ?_⟩
    refine ⟨_, rfl, _, rfl, t, b, rfl, ht, hb, hz, fun c hc => ?_⟩
    have nac : a ≠ c := fun z => by
      rw [z] at hc
      rw [upd_same] at hc
      cases hc
    have e1 : Same H (upd (upd H a (.tup [V.int (lowT t b), V.int (lowB t b)])) c (.tup [V.int (lowT t b), V.int (lowB t b)])) := fun q o e => by
      rw [upd_ne (ne_of_none (by rw [upd_ne (ne_of_none e ha)]; exact e) hc), upd_ne (ne_of_none e ha)]
      exact e
    refine ⟨.tuple [.int (lowT t b), .int (lowB t b)], .tuple [.int (lowT t b), .int (lowB t b)], .tup (SqT.of (by rw [upd_ne nac]; exact upd_same)) (.cons (.int _) (.cons (.int _) .nil)), .tup (SqT.of upd_same) (.cons (.int _) (.cons (.int _) .nil)), rfl, rfl, ?_⟩
    rw [SeqAt.eqv_refl]
    · exact k _ e1
    · rfl
theorem scSign : FnScope ["_law_deck_here", "_law_some"] ["_law_deck_here"] (defScope sSign) := ⟨rfl, rfl, rfl, by decide +kernel, rfl, by decide +kernel, by decide +kernel⟩
theorem ok_sign {f fD : Addr} {fd fdD : FuncData} (F : Fun K "_law_sign" "_law_sign" sSign f fd) (hln : mg "len" = none) (cD : Cl K mg "_law_draw" fD fdD ["_law_deck_here", "_law_most"]) (GD : FnOk P w K mg base CX0 1 fD fdD ["_law_deck_here", "_law_most"] spDraw) : FnOk P w K mg base CX0 2 f fd ["_law_deck_here"] spSign := by
  refine F.ok scSign (fun vs H Q E h => ?_) (fun cdv A outer s H vs Q E hr h => ?_)
  · obtain ⟨d, rfl, _⟩ := h
    rfl
  · obtain ⟨d, rfl, hd, k⟩ := h
    refine ⟨_, (pss_cons (ps_set (i := 1) scSign.nd rfl (Or.inl rfl) pe_str)
    (pss_cons (ps_set (i := 1) scSign.nd rfl (Or.inl rfl) (pe_op op_add_str (pv 1) (pe_op op_mulS pe_str pe_int)))
    (pss_one (ps_ret (pe_ix ix_str (pv 1) (pe_call GD (hr.mono (by decide)) (by rfl) cD.g cD.k cD.b .nil pass0 (pa_cons (pv 0) (pa_cons (pe_callB call_len_str (by rfl) hln PySem.boot_len (pa_cons (pv 1) pa_nil)) pa_nil))) (fun _ _ => rfl)))))), ?_⟩
    refine ⟨_, rfl, _, _, rfl, rfl, by unfold MulOk; decide +kernel, _, _, rfl, rfl, by decide +kernel, ?_⟩
    generalize hz : (_ ++ Txt.mul _ 4 : Str) = z
    have az : Asc z := by rw [← hz]; exact asc_lit _ (by decide +kernel)
    have lz : z.length = 151 := by rw [← hz]; decide +kernel
    refine ⟨_, rfl, _, rfl, _, rfl, z, rfl, by rw [lz]; decide, d, _, rfl, by rw [lz]; decide, by rw [lz]; decide, hd, fun q q0 q1 H1 d1 e1 => ?_⟩
    have hq : q.toNat < z.cps.toList.length := by
      have : z.cps.toList.length = z.length := by simp [Str.length]
      omega
    have hg : z.cps.toList[q.toNat]? = some z.cps.toList[q.toNat] := List.getElem?_eq_getElem hq
    have ha := atI_nat hg
    rw [Int.toNat_of_nonneg q0] at ha
    refine ⟨z, q, _, rfl, rfl, by rw [lz]; decide, ha, ?_⟩
    exact k _ H1 (asc_one (az _ (List.getElem_mem hq))) rfl d1 (Fw.draw d1 e1)
theorem scBent : FnScope ["_law_deck_here", "_law_text", "_law_way", "_law_at"] ["_law_deck_here", "_law_text"] (defScope sBent) := ⟨rfl, rfl, rfl, by decide +kernel, rfl, by decide +kernel, by decide +kernel⟩
theorem ok_bent {f fD fS : Addr} {fd fdD fdS : FuncData} (F : Fun K "_law_text_otherwise" "_law_text_otherwise" sBent f fd) (B : Blt mg) (hln : mg "len" = none) (cD : Cl K mg "_law_draw" fD fdD ["_law_deck_here", "_law_most"]) (GD : FnOk P w K mg base CX0 1 fD fdD ["_law_deck_here", "_law_most"] spDraw)
    (cS : Cl K mg "_law_sign" fS fdS ["_law_deck_here"]) (GS : FnOk P w K mg base CX0 2 fS fdS ["_law_deck_here"] spSign) : FnOk P w K mg base CX0 3 f fd ["_law_deck_here", "_law_text"] spBent := by
  refine F.ok scBent (fun vs H Q E h => ?_) (fun cdv A outer s H vs Q E hr h => ?_)
  · obtain ⟨d, z, rfl, _⟩ := h
    rfl
  · obtain ⟨d, z, rfl, hd, az, lz, k⟩ := h
    refine ⟨_, (pss_cons (ps_set (i := 2) scBent.nd rfl (Or.inl rfl) (pe_call GD (hr.mono (by decide)) (by rfl) cD.g cD.k cD.b .nil pass0 (pa_cons (pv 0) (pa_cons pe_int pa_nil))))
    (pss_cons (ps_set (i := 3) scBent.nd rfl (Or.inl rfl) (pe_call GD (hr.mono (by decide)) (by rfl) cD.g cD.k cD.b .nil pass0 (pa_cons (pv 0) (pa_cons (pe_op op_add (pe_callB call_len_str (by rfl) hln PySem.boot_len (pa_cons (pv 1) pa_nil)) pe_int) pa_nil))))
    (pss_cons (ps_if (pt_cmpR op_lt (pv 2) pe_int (nomark _)) (pss_one (ps_ret (pe_op op_add_str (pe_op op_add_str (pe_slice sl_str (pv 1) po_none (po_some (pv 3))) (pe_ix ix_list (pe_lst (pa_cons (pe_call GS (hr.mono (by decide)) (by rfl) cS.g cS.k cS.b .nil pass0 (pa_cons (pv 0) pa_nil)) (pa_cons (pe_call GS (hr.mono (by decide)) (by rfl) cS.g cS.k cS.b .nil pass0 (pa_cons (pv 0) pa_nil)) (pa_cons pe_str (pa_cons (pe_slice sl_str (pv 1) (po_some (pv 3)) (po_some (pe_op op_add (pv 3) pe_int))) pa_nil))))) (pv 2) (fun _ _ => rfl))) (pe_slice sl_str (pv 1) (po_some (pe_op op_add (pv 3) (pe_callTy call_int1 (by rfl) B.int (by decide +kernel) (pa_cons (pe_chain op_lt op_lt pe_int (pv 2) pe_int) pa_nil)))) po_none)))) pss_nil)
    (pss_one (ps_ret (pe_ix ix_list (pe_lst (pa_cons (pe_op op_add_str (pv 1) (pv 1)) (pa_cons (pe_upper (pv 1)) (pa_cons (pe_revS (pv 1)) (pa_cons (pe_op op_add_str (pv 1) pe_str) pa_nil))))) (pe_op op_sub (pv 2) pe_int) (fun _ _ => rfl))))))), ?_⟩
    have big : ∀ n : Nat, n ≤ 100000 → n ≤ sizeLine := fun n h => Nat.le_trans h (by decide)
    have hz : z.length ≤ sizeLine := big _ (by omega)
    refine ⟨_, rfl, d, 8, rfl, by decide, by decide, hd, fun q q0 q1 H1 d1 e1 => ?_⟩
    refine ⟨_, rfl, _, rfl, z, rfl, hz, _, _, rfl, rfl, d, _, rfl, by omega, by omega, d1, fun r r0 r1 H2 d2 e2 => ?_⟩
    have f2 := (Fw.draw d1 e1).trans (Fw.draw d2 e2)
    refine ⟨_, rfl, _, _, rfl, rfl, _, rfl, ?_⟩
    refine ite2 (fun hw => ?_) (fun hw => ?_)
    · have hw := of_decide_eq_true hw
      refine ⟨_, rfl, _, rfl, r, rfl, z, rfl, hz, ?_⟩
      refine ⟨_, rfl, d, rfl, d2, fun s1 H3 a1 l1 d3 f3 => ?_⟩
      refine ⟨_, rfl, d, rfl, d3, fun s2 H4 a2 l2 d4 f4 => ?_⟩
      refine ⟨_, rfl, _, rfl, r, rfl, _, rfl, _, _, rfl, rfl, _, rfl, z, rfl, hz, (by show 4 ≤ sizeLine; decide), fun l hl => ?_⟩
      obtain ⟨v, hv, mv⟩ := at_in (xs := [.str s1, .str s2, .str "", .str (cutS z (some r) (some (r + 1)))]) q0 (show q < 4 by omega)
      have lc : (cutS z (some r) (some (r + 1))).length ≤ z.length := cutS_length z _ _
      have e0 : ("" : Str).length = 0 := by decide +kernel
      obtain ⟨y, rfl, ay, ly⟩ : ∃ y, v = .str y ∧ Asc y ∧ y.length ≤ z.length + 1 := by
        rcases List.mem_cons.mp mv with rfl | mv
        · exact ⟨_, rfl, a1, by omega⟩
        · rcases List.mem_cons.mp mv with rfl | mv
          · exact ⟨_, rfl, a2, by omega⟩
          · rcases List.mem_cons.mp mv with rfl | mv
            · exact ⟨_, rfl, asc_lit _ (by decide +kernel), by omega⟩
            · rw [List.mem_singleton.mp mv]
              exact ⟨_, rfl, asc_cut az _ _, by omega⟩
      have lA : (cutS z none (some r)).length ≤ z.length := cutS_length z _ _
      refine ⟨_, rfl, l, _, q, _, rfl, rfl, SqL.of upd_same, hv, _, _, rfl, rfl, big _ (by omega), ?_⟩
      have fin : ∀ b : Int, Q (.str (cutS z none (some r) ++ y ++ cutS z (some (r + b)) none)) (upd H4 l (.lst [.str s1, .str s2, .str "", .str (cutS z (some r) (some (r + 1)))])) := fun b => by
        have lB : (cutS z (some (r + b)) none).length ≤ z.length := cutS_length z _ _
        refine k _ _ (asc_app (asc_app (asc_cut az _ _) ay) (asc_cut az _ _)) ?_ (d4.upd hl) (((f2.trans f3).trans f4).trans (Fw.upd hl))
        rw [append_len, append_len]
        omega
      have lB : ∀ b : Int, (cutS z (some (r + b)) none).length ≤ z.length := fun b => cutS_length z _ _
      have sz : ∀ b : Int, (cutS z none (some r) ++ y).length + (cutS z (some (r + b)) none).length ≤ sizeLine := fun b => big _ (by
        have := lB b
        rw [append_len]
        omega)
      refine ⟨_, rfl, _, rfl, _, rfl, _, _, rfl, rfl, _, rfl, ?_⟩
      refine ite2 (fun _ => ?_) (fun _ => ?_)
      · refine ⟨_, _, rfl, rfl, .inr ⟨_, rfl, _, _, rfl, rfl, _, rfl, z, rfl, hz, _, _, rfl, rfl, sz _, fin _⟩⟩
      · refine .inr ⟨_, rfl, _, _, rfl, rfl, _, rfl, z, rfl, hz, _, _, rfl, rfl, sz _, fin _⟩
    · have hw : ¬ q < 4 := fun h => hw (decide_eq_true h)
      have lu := PyProof.Rows.len_upper z
      have lr := revT_len z
      have e1 : ("\n" : Str).length = 1 := by decide +kernel
      refine ⟨_, rfl, _, rfl, _, _, rfl, rfl, big _ (by omega), _, rfl, ⟨_, rfl⟩, z, rfl, rfl, by omega, _, rfl, z, rfl, hz, _, rfl, _, _, rfl, rfl, big _ (by omega), (by show 4 ≤ sizeLine; decide), fun l hl => ?_⟩
      obtain ⟨v, hv, mv⟩ := at_in (q := q - 4) (xs := [.str (z ++ z), .str (Txt.upper z), .str (revT z), .str (z ++ "\n")]) (by omega) (show q - 4 < 4 by omega)
      obtain ⟨y, rfl, ay, ly⟩ : ∃ y, v = .str y ∧ Asc y ∧ y.length ≤ 3 * z.length + 3 := by
        rcases List.mem_cons.mp mv with rfl | mv
        · exact ⟨_, rfl, asc_app az az, by rw [append_len]; omega⟩
        · rcases List.mem_cons.mp mv with rfl | mv
          · exact ⟨_, rfl, asc_upper az, by omega⟩
          · rcases List.mem_cons.mp mv with rfl | mv
            · exact ⟨_, rfl, asc_rev az, by omega⟩
            · rw [List.mem_singleton.mp mv]
              exact ⟨_, rfl, asc_app az (asc_lit _ (by decide +kernel)), by rw [append_len]; omega⟩
      refine ⟨_, rfl, _, _, rfl, rfl, l, _, _, _, rfl, rfl, SqL.of upd_same, hv, ?_⟩
      exact k y _ ay ly (d2.upd hl) (f2.trans (Fw.upd hl))
end
abbrev FunI (K : PySem.W.Frag) (f : Addr) (fd : FuncData) : Prop := FunD K "__init__" "Weight.__init__" (defArgs sInit) (defBody sInit) (defScope sInit) [.int 1] [] f fd
section
variable {P : Program} {w : World} {K : PySem.W.Frag} {mg : Str → Option Value} {base : Heap}
theorem scInit : FnScope ["self", "top", "bottom", "shared"] ["self", "top", "bottom"] (defScope sInit) := ⟨rfl, rfl, rfl, by decide +kernel, rfl, by decide +kernel, by decide +kernel⟩
theorem ok_init {f C fW : Addr} {fd fdW : FuncData} (F : FunI K f fd) (T : WTxt K mg C fW) (GW : FnOk P w K mg base CX0 1 fW fdW ["thing"] (spWhole K)) (bW : Binds K fdW ["thing"] []) : FnOk P w K mg base CX0 2 f fd ["self", "top", "bottom"] (spInit C) := by
  refine FunD_ok0 F scInit (fun vs H Q E h => ?_) (fun cdv A outer s H vs Q E hr h => ?_)
  · obtain ⟨p, dx, t, b, rfl, _⟩ := h
    rfl
  · obtain ⟨p, dx, t, b, rfl, hp, ht, hb, hz, k⟩ := h
    refine ⟨_, pss_cons (ps_if (PW.pt (pw_and (pt_val (pe_call GW hr (by rfl) T.mgW T.kpW bW .nil pass0 (pa_cons (pv 2) pa_nil))) (pw_and1 (pt_cmpR op_eq (pv 2) pe_int (nomark _))))) (pss_one ps_never) pss_nil)
      (pss_cons (ps_if (PW.pt (pw_or (pt_not (pt_val (pe_call GW hr (by rfl) T.mgW T.kpW bW .nil pass0 (pa_cons (pv 1) pa_nil)))) (pw_or (pt_not (pt_val (pe_call GW hr (by rfl) T.mgW T.kpW bW .nil pass0 (pa_cons (pv 2) pa_nil))))
          (pw_or (pt_cmpR op_lt (pv 1) pe_int (nomark _)) (pw_or1 (pt_cmpR op_lt (pv 2) pe_int (nomark _))))))) (pss_one ps_never) pss_nil)
      (pss_cons (ps_set (i := 3) scInit.nd rfl (Or.inl rfl) (pe_callBfun cr_gcd (by rfl) T.gcd (pa_cons (pv 1) (pa_cons (pv 2) pa_nil))))
      (pss_cons (ps_fld (pv 0) (pe_op op_fdivW (pv 1) (pv 3)) rfl)
      (pss_one (ps_fld (pv 0) (pe_op op_fdivW (pv 2) (pv 3)) rfl))))), ?_⟩
    have hg := gcd_pos (t := t) hb
    have hgz : CDivW t ((Int.gcd t b : Nat) : Int) := ⟨hg, Nat.lt_trans ((Sz.gcd (t := t) hz hb).log (by decide)) (by decide)⟩
    have hgz' : CDivW b ((Int.gcd t b : Nat) : Int) := hgz
    refine ⟨_, rfl, b, rfl, true, rfl, iteT ⟨_, rfl, rfl, _, rfl, ?_⟩⟩
    rw [decide_eq_false (show ¬ (V.int b = V.int 0) from fun z => by cases z; omega)]
    refine iteF ?_
    refine ⟨_, rfl, t, rfl, true, rfl, iteF ⟨_, rfl, b, rfl, true, rfl, iteF ⟨_, rfl, _, _, rfl, rfl, _, rfl, ?_⟩⟩⟩
    rw [decide_eq_false (show ¬ t < 0 by omega)]
    refine iteF ⟨_, rfl, _, _, rfl, rfl, _, rfl, ?_⟩
    rw [decide_eq_false (show ¬ b < 0 by omega)]
    refine iteF ?_
    refine ⟨_, rfl, _, rfl, t, b, rfl, ?_⟩
    refine ⟨_, rfl, _, rfl, _, _, rfl, rfl, hgz, _, rfl, p, C, dx, _, rfl, hp, T.cl, T.nT, (by show 0 < 1000; decide), ?_⟩
    refine ⟨_, rfl, _, rfl, _, _, rfl, rfl, hgz', _, rfl, p, C, dx, _, rfl, upd_same, T.cl, T.nB, (by show 1 < 1000; decide), ?_⟩
    show Q .non (upd (upd H p _) p _)
    rw [upd_upd]
    exact k
theorem scOdd : FnScope ["_law_deck_here", "_law_deep", "_law_k", "_law_some"] ["_law_deck_here"] (defScope sOdd) := ⟨rfl, rfl, rfl, by decide +kernel, rfl, by decide +kernel, by decide +kernel⟩
theorem ok_odd {f C fW fI fD : Addr} {fd dI fdD : FuncData} (F : Fun K "_law_odd" "_law_odd" sOdd f fd) (T : WTxt K mg C fW) (hrg : mg "range" = none) (hln : mg "len" = none)
    (M : Mk K C fI) (GI : FnOk P w K mg base CX0 2 fI dI ["self", "top", "bottom"] (spInit C)) (bI : Binds K dI ["self", "top", "bottom"] []) {ds : List Value} (vd : Vals [V.int 1] ds) (bI1 : Binds K dI ["self", "top", "bottom"] ds)
    (cD : Cl K mg "_law_draw" fD fdD ["_law_deck_here", "_law_most"]) (GD : FnOk P w K mg base CX0 1 fD fdD ["_law_deck_here", "_law_most"] spDraw) : FnOk P w K mg base CX0 4 f fd ["_law_deck_here"] (spOdd C) := by
  refine F.ok scOdd (fun vs H Q E h => ?_) (fun cdv A outer s H vs Q E hr h => ?_)
  · obtain ⟨d, rfl, _⟩ := h
    rfl
  · obtain ⟨d, rfl, hd, k⟩ := h
    refine ⟨_, (pss_cons (ps_set (i := 1) scOdd.nd rfl (Or.inl rfl) pe_int)
    (pss_cons (ps_for PassesOwn.never rfl (pi_range1 (by rfl) hrg (pa_cons pe_int pa_nil)) (pg_name (i := 2) scOdd.nd rfl (Or.inl rfl))
      (pss_one (ps_set (i := 1) scOdd.nd rfl (Or.inl rfl) (pe_ix ix_list (pe_lst (pa_cons (pe_tup (pa_cons (pv 1) pa_nil)) (pa_cons (pe_lst (pa_cons (pv 1) pa_nil)) (pa_cons (pe_disp (pps_cons pe_int (pv 1) pps_nil) (by rfl) (by rfl) (fun z => by cases z) (by decide)) pa_nil)))) (pe_call GD (hr.mono (by decide)) (by rfl) cD.g cD.k cD.b .nil pass0 (pa_cons (pv 0) (pa_cons pe_int pa_nil))) (fun _ _ => rfl)))))
    (pss_cons (ps_set (i := 3) scOdd.nd rfl (Or.inl rfl) (pe_lst (pa_cons pe_non (pa_cons pe_bl (pa_cons pe_bl (pa_cons pe_int (pa_cons pe_int (pa_cons pe_int (pa_cons (pe_un un_neg pe_int) (pa_cons (pe_op op_pow pe_int pe_int) (pa_cons (pe_op op_sub pe_int (pe_op op_pow pe_int pe_int)) (pa_cons pe_str (pa_cons pe_str (pa_cons pe_str (pa_cons pe_str (pa_cons pe_str (pa_cons (pe_tup pa_nil) (pa_cons (pe_tup (pa_cons pe_int pa_nil)) (pa_cons (pe_tup (pa_cons pe_int (pa_cons pe_int pa_nil))) (pa_cons (pe_lst pa_nil) pa_nil))))))))))))))))))))
    (pss_cons (ps_set (i := 3) scOdd.nd rfl (Or.inl rfl) (pe_op op_cat (pv 3) (pe_lst (pa_cons (pe_lst (pa_cons pe_int pa_nil)) (pa_cons (pe_lst (pa_cons pe_str pa_nil)) (pa_cons pe_dnewK (pa_cons (pe_disp (pps_cons pe_int pe_int pps_nil) (by rfl) (by rfl) (fun z => by cases z) (by decide)) (pa_cons (pv 1) (pa_cons (pe_make M GI (hr.mono (by decide)) (by rfl) T.mgC bI1 vd pass0 (pa_cons pe_int pa_nil)) (pa_cons (pe_make M GI (hr.mono (by decide)) (by rfl) T.mgC bI .nil pass0 (pa_cons pe_int (pa_cons pe_int pa_nil))) (pa_cons (pe_tup (pa_cons (pe_make M GI (hr.mono (by decide)) (by rfl) T.mgC bI1 vd pass0 (pa_cons pe_int pa_nil)) pa_nil)) (pa_cons pe_str (pa_cons pe_str pa_nil)))))))))))))
    (pss_one (ps_ret (pe_ix ix_list (pv 3) (pe_call GD (hr.mono (by decide)) (by rfl) cD.g cD.k cD.b .nil pass0 (pa_cons (pv 0) (pa_cons (pe_callB call_len_seq (by rfl) hln PySem.boot_len (pa_cons (pv 3) pa_nil)) pa_nil))) (fun _ _ => rfl)))))))), ?_⟩
    have up : ∀ {H p o}, H p = none → Fw d H (upd H p o) := fun h => Fw.upd h
    refine ⟨6, rfl, by decide, by decide, for_range (lo := 0) (n := 6) (fun j σ H2 => ∃ v u, σ = [some (.ref d), some v, u, none] ∧ Od C d (2 * j) (Ld j) H2 v ∧ DeckAt H2 d ∧ Fw d H H2) ?_ ?_ ?_⟩
    · exact ⟨.int 0, none, rfl, od_int (by unfold Sz; decide) (Nat.le_refl _), hd, Fw.refl d H⟩
    · rintro j σ H2 hj ⟨v, u, rfl, ov, d2, f2⟩
      have lb := Ld_big j
      have h1 : 2 * j + 2 ≤ 2 * (j + 1) := by omega
      have h2 : 1 * (Ld j + 2) + 3 ≤ Ld (j + 1) := by show _ ≤ 2 * Ld j + 7; omega
      have h3 : 1 * (2 * Ld j + 4) + 3 ≤ Ld (j + 1) := by show _ ≤ 2 * Ld j + 7; omega
      refine ⟨_, rfl, (by show 1 ≤ sizeLine; decide), fun pa ha => ⟨_, rfl, (by show 1 ≤ sizeLine; decide), fun pb hb pc hc => ⟨_, rfl, upd_same, [(.inl 0, v)], rfl, (by show 1 ≤ 15; decide), (by show 3 ≤ sizeLine; decide), fun l hl => ?_⟩⟩⟩
      have em : mergeK [] [((.inl 0 : Key), v)] = [(.inl 0, v)] := rfl
      rw [upd_upd, em] at hl ⊢
      have da := d2.upd (o := .tup [v]) ha
      have db := da.upd (o := .lst [v]) hb
      have dc := db.upd (o := .dK [(.inl 0, v)]) hc
      have dl := dc.upd (o := .lst [.ref pa, .ref pb, .ref pc]) hl
      have oa := od_tup (xs := [v]) ha (d2.ne ha) (al ov al0) h1 h2
      have ob := od_lst (xs := [v]) hb (da.ne hb) (al (ov.fw (up ha)) al0) h1 h2
      have oc := od_dic (kvs := [(.inl 0, v)]) hc (db.ne hc) (fun kv hk => by
        cases List.mem_singleton.mp hk
        exact ⟨(ov.fw (up ha)).fw (up hb), 0, rfl, by unfold Sz; decide⟩) lb h1 h3
      refine ⟨_, rfl, d, 3, rfl, by decide, by decide, dl, fun q q0 q1 H3 d3 e3 => ?_⟩
      have f3 := Fw.draw d3 e3
      have all := f2.trans (((((up (o := .tup [v]) ha).trans (up (o := .lst [v]) hb)).trans (up (o := .dK [(.inl 0, v)]) hc)).trans (up (o := .lst [.ref pa, .ref pb, .ref pc]) hl)).trans f3)
      have hl3 : H3 l = some (.lst [.ref pa, .ref pb, .ref pc]) := (e3 l (dc.ne hl)).trans upd_same
      have els := al (p := Od C d (2 * (j + 1)) (Ld (j + 1)) H3) ((((oa.fw (up hb)).fw (up hc)).fw (up hl)).fw f3) (al (((ob.fw (up hc)).fw (up hl)).fw f3) (al ((oc.fw (up hl)).fw f3) al0))
      obtain ⟨x, hx, mx⟩ := at_in (xs := [.ref pa, .ref pb, .ref pc]) q0 q1
      exact ⟨l, _, _, x, rfl, rfl, SqL.of hl3, hx, x, _, rfl, els x mx, d3, all⟩
    · rintro σ H2 ⟨v, u, rfl, ov, d2, f2⟩
      have p39 : CPow (10 : Int) (39 : Int) := (by show (0:Int) ≤ 39 ∧ (39:Int) ≤ 1000000 ∧ (10:Int).natAbs < 2 ^ 64; decide)
      refine ⟨_, rfl, _, _, rfl, rfl, p39, _, _, rfl, rfl, p39, _, _, rfl, rfl, (by show 0 ≤ sizeLine; decide), fun p1 h1 => ⟨(by show 1 ≤ sizeLine; decide), fun p2 h2 => ⟨(by show 2 ≤ sizeLine; decide), fun p3 h3 => ⟨(by show 0 ≤ sizeLine; decide), fun p4 h4 => ⟨(by show 18 ≤ sizeLine; decide), fun l1 hl1 => ?_⟩⟩⟩⟩⟩
      generalize hxs1 : [V.non, V.bl true, V.bl false, V.int 0, V.int 1, V.int 2, V.int (-1), V.int (10 ^ (39 : Int).toNat), V.int (1 - 10 ^ (39 : Int).toNat), V.str "", V.str "0", V.str "a", V.str "c0", V.str "7/2", V.ref p1, V.ref p2, V.ref p3, V.ref p4] = xs1 at *
      have z0 : Sz 1600 0 := by unfold Sz; decide
      have z1 : Sz 1600 1 := by unfold Sz; decide
      have z2 : Sz 1600 2 := by unfold Sz; decide
      have d3 := d2.upd (o := .tup []) h1
      have d4 := d3.upd (o := .tup [.int 0]) h2
      have d5 := d4.upd (o := .tup [.int 1, .int 2]) h3
      have d6 := d5.upd (o := .lst []) h4
      have d7 := d6.upd (o := .lst xs1) hl1
      have o1 := od_tup (C := C) (N := 0) (M := 1601) (N' := 20) (M' := 300000) h1 (d2.ne h1) al0 (by decide) (by show 0 * (1601 + 2) + 3 ≤ 300000; decide)
      have o2 := od_tup (C := C) (N := 0) (M := 1601) (N' := 20) (M' := 300000) h2 (d3.ne h2) (al (od_int z0 (Nat.le_refl _)) al0) (by decide) (by show 1 * (1601 + 2) + 3 ≤ 300000; decide)
      have o3 := od_tup (C := C) (N := 0) (M := 1601) (N' := 20) (M' := 300000) h3 (d4.ne h3) (al (od_int z1 (Nat.le_refl _)) (al (od_int z2 (Nat.le_refl _)) al0)) (by decide) (by show 2 * (1601 + 2) + 3 ≤ 300000; decide)
      have o4 := od_lst (C := C) (N := 0) (M := 1601) (N' := 20) (M' := 300000) h4 (d5.ne h4) al0 (by decide) (by show 0 * (1601 + 2) + 3 ≤ 300000; decide)
      have oi : ∀ {H : Hp} {i : Int}, Sz 1600 i → Od C d 20 300000 H (.int i) := fun z => od_int z (by decide)
      have os : ∀ {H : Hp} {x : Str}, (x.cps.toList.all (fun c => decide (c < 128)) = true ∧ x.length ≤ 10000 ∧ (reprText x).length ≤ 100) → Od C d 20 300000 H (.str x) := fun z => od_str (asc_lit _ z.1) z.2.1 (Nat.le_trans z.2.2 (by decide)) (Nat.le_trans z.2.2 (by decide))
      have all1 : ∀ v ∈ xs1, Od C d 20 300000 (upd (upd (upd (upd (upd H2 p1 (.tup [])) p2 (.tup [.int 0])) p3 (.tup [.int 1, .int 2])) p4 (.lst [])) l1 (.lst xs1)) v := by
        rw [← hxs1]
        refine al (od_non (by decide)) (al (od_bl (by decide)) (al (od_bl (by decide)) (al (oi z0) (al (oi z1) (al (oi z2) (al (oi (by unfold Sz; decide)) (al (oi (by unfold Sz; decide +kernel)) (al (oi (by unfold Sz; decide +kernel))
          (al (os (by decide +kernel)) (al (os (by decide +kernel)) (al (os (by decide +kernel)) (al (os (by decide +kernel)) (al (os (by decide +kernel)) (al ?_ (al ?_ (al ?_ (al ?_ al0)))))))))))))))))
        all_goals rw [hxs1]
        · exact (((o1.fw (up h2)).fw (up h3)).fw (up h4)).fw (up hl1)
        · exact ((o2.fw (up h3)).fw (up h4)).fw (up hl1)
        · exact (o3.fw (up h4)).fw (up hl1)
        · exact o4.fw (up hl1)
      have len1 : xs1.length = 18 := by rw [← hxs1]; rfl
      have fA := f2.trans ((((((up (o := .tup []) h1).trans (up (o := .tup [.int 0]) h2)).trans (up (o := .tup [.int 1, .int 2]) h3)).trans (up (o := .lst []) h4)).trans (up (o := .lst xs1) hl1)))
      have ovA := (((((ov.fw (up (o := .tup []) h1)).fw (up (o := .tup [.int 0]) h2)).fw (up (o := .tup [.int 1, .int 2]) h3)).fw (up (o := .lst []) h4)).fw (up (o := .lst xs1) hl1)).mono (N' := 20) (M' := 300000) (by decide) (by decide +kernel)
      have hlA : (upd (upd (upd (upd (upd H2 p1 (.tup [])) p2 (.tup [.int 0])) p3 (.tup [.int 1, .int 2])) p4 (.lst [])) l1 (.lst xs1)) l1 = some (.lst xs1) := upd_same
      have nl1 := d6.ne hl1
      generalize upd (upd (upd (upd (upd H2 p1 (.tup [])) p2 (.tup [.int 0])) p3 (.tup [.int 1, .int 2])) p4 (.lst [])) l1 (.lst xs1) = HA at *
      clear o1 o2 o3 o4 d3 d4 d5 d6 h1 h2 h3 h4 hl1
      -- the second row
      refine ⟨_, rfl, (by show 1 ≤ sizeLine; decide), fun p5 h5 => ⟨(by show 1 ≤ sizeLine; decide), fun p6 h6 p7 h7 p8 h8 => ⟨upd_same, [(.inl 0, .int 1)], rfl, (by show 1 ≤ 15; decide), _, rfl, fun x1 dx1 nx1 ndx1 ne1 => ?_⟩⟩⟩
      have em : mergeK [] [((.inl 0 : Key), V.int 1)] = [(.inl 0, V.int 1)] := rfl
      rw [upd_upd, em] at nx1 ndx1 ⊢
      have e5 := d7.upd (o := .lst [.int 0]) h5
      have e6 := e5.upd (o := .lst [.str "a"]) h6
      have e7 := e6.upd (o := .dK []) h7
      have e8 := e7.upd (o := .dK [(.inl 0, .int 1)]) h8
      have o5 := od_lst (C := C) (N := 0) (M := 1601) (N' := 20) (M' := 300000) h5 (d7.ne h5) (al (od_int z0 (Nat.le_refl _)) al0) (by decide) (by show 1 * (1601 + 2) + 3 ≤ 300000; decide)
      have o6 := od_lst (C := C) (N := 0) (M := 1601) (N' := 20) (M' := 300000) h6 (e5.ne h6) (al (od_str (x := "a") (asc_lit _ (by decide +kernel)) (by decide +kernel) (by decide +kernel) (by decide +kernel)) al0) (by decide) (by show 1 * (1601 + 2) + 3 ≤ 300000; decide)
      have o7 := od_dic (C := C) (kvs := []) (N := 0) (M := 1601) (N' := 20) (M' := 300000) h7 (e6.ne h7) (fun _ z => nomatch z) (by decide) (by decide) (by show 0 * (2 * 1601 + 4) + 3 ≤ 300000; decide)
      have o8 := od_dic (C := C) (kvs := [(.inl 0, .int 1)]) (N := 0) (M := 1601) (N' := 20) (M' := 300000) h8 (e7.ne h8) (fun kv hk => by
        cases List.mem_singleton.mp hk
        exact ⟨od_int z1 (Nat.le_refl _), 0, rfl, z0⟩) (by decide) (by decide) (by show 1 * (2 * 1601 + 4) + 3 ≤ 300000; decide)
      have u58 := (((up (o := .lst [.int 0]) h5).trans (up (o := .lst [.str "a"]) h6)).trans (up (o := .dK []) h7)).trans (up (o := .dK [(.inl 0, .int 1)]) h8)
      have o5 := ((o5.fw (up (o := .lst [.str "a"]) h6)).fw (up (o := .dK []) h7)).fw (up (o := .dK [(.inl 0, .int 1)]) h8)
      have o6 := (o6.fw (up (o := .dK []) h7)).fw (up (o := .dK [(.inl 0, .int 1)]) h8)
      have o7 := o7.fw (up (o := .dK [(.inl 0, .int 1)]) h8)
      have ovB := ovA.fw u58
      have fB := fA.trans u58
      have hlB := u58.kp _ _ nl1 hlA
      have all1B : ∀ v ∈ xs1, Od C d 20 300000 _ v := fun v hv => (all1 v hv).fw u58
      generalize upd (upd (upd (upd HA p5 (.lst [.int 0])) p6 (.lst [.str "a"])) p7 (.dK [])) p8 (.dK [(.inl 0, V.int 1)]) = HB at *
      clear e5 e6 e7 h5 h6 h7 h8 u58 all1 hlA
      have s1 := same_make (C := C) (fs := wf (1 / ((Int.gcd 1 1 : Nat) : Int)) (1 / ((Int.gcd 1 1 : Nat) : Int))) nx1 ndx1
      have w1 : WAt C (upd (upd (upd HB dx1 (.own x1)) x1 (.ins C dx1 [])) x1 (.ins C dx1 (wf (1 / ((Int.gcd 1 1 : Nat) : Int)) (1 / ((Int.gcd 1 1 : Nat) : Int))))) x1 (lowT 1 1) (lowB 1 1) := ⟨dx1, upd_same⟩
      refine ⟨x1, dx1, 1, 1, rfl, upd_same, by decide, by decide, by unfold Sz; decide, rfl, fun x2 dx2 nx2 ndx2 ne2 => ?_⟩
      have n1 := e8.ne nx1
      have e9 := e8.same s1
      generalize upd (upd (upd HB dx1 (.own x1)) x1 (.ins C dx1 [])) x1 (.ins C dx1 (wf (1 / ((Int.gcd 1 1 : Nat) : Int)) (1 / ((Int.gcd 1 1 : Nat) : Int)))) = HC at *
      have s2 := same_make (C := C) (fs := wf (7 / ((Int.gcd 7 2 : Nat) : Int)) (2 / ((Int.gcd 7 2 : Nat) : Int))) nx2 ndx2
      have w2 : WAt C (upd (upd (upd HC dx2 (.own x2)) x2 (.ins C dx2 [])) x2 (.ins C dx2 (wf (7 / ((Int.gcd 7 2 : Nat) : Int)) (2 / ((Int.gcd 7 2 : Nat) : Int))))) x2 (lowT 7 2) (lowB 7 2) := ⟨dx2, upd_same⟩
      refine ⟨x2, dx2, 7, 2, rfl, upd_same, by decide, by decide, by unfold Sz; decide, rfl, fun x3 dx3 nx3 ndx3 ne3 => ?_⟩
      have n2 := e9.ne nx2
      have e10 := DeckAt.same e9 s2
      generalize upd (upd (upd HC dx2 (.own x2)) x2 (.ins C dx2 [])) x2 (.ins C dx2 (wf (7 / ((Int.gcd 7 2 : Nat) : Int)) (2 / ((Int.gcd 7 2 : Nat) : Int)))) = HD at *
      have s3 := same_make (C := C) (fs := wf (0 / ((Int.gcd 0 1 : Nat) : Int)) (1 / ((Int.gcd 0 1 : Nat) : Int))) nx3 ndx3
      have w3 : WAt C (upd (upd (upd HD dx3 (.own x3)) x3 (.ins C dx3 [])) x3 (.ins C dx3 (wf (0 / ((Int.gcd 0 1 : Nat) : Int)) (1 / ((Int.gcd 0 1 : Nat) : Int))))) x3 (lowT 0 1) (lowB 0 1) := ⟨dx3, upd_same⟩
      refine ⟨x3, dx3, 0, 1, rfl, upd_same, by decide, by decide, by unfold Sz; decide, rfl, (by show 1 ≤ sizeLine; decide), fun p9 h9 => ⟨(by show 10 ≤ sizeLine; decide), fun l2 hl2 => ?_⟩⟩
      have n3 := e10.ne nx3
      have e11 := DeckAt.same e10 s3
      generalize upd (upd (upd HD dx3 (.own x3)) x3 (.ins C dx3 [])) x3 (.ins C dx3 (wf (0 / ((Int.gcd 0 1 : Nat) : Int)) (1 / ((Int.gcd 0 1 : Nat) : Int)))) = HE at *
      have e12 := e11.upd (o := .tup [.ref x3]) h9
      have sm : ∀ {t b : Int}, 0 ≤ t → 0 < b → Sz 1600 t → Sz 1600 b → Wn 1600 (lowT t b) (lowB t b) := fun a b c d => Wn.low ⟨a, b, c, d⟩
      have m1 := sm (t := 1) (b := 1) (by decide) (by decide) z1 z1
      have m2 := sm (t := 7) (b := 2) (by decide) (by decide) (by unfold Sz; decide) z2
      have m3 := sm (t := 0) (b := 1) (by decide) (by decide) z0 z1
      have o9 := od_tup (C := C) (N := 3) (M := 4000) (N' := 20) (M' := 300000) h9 (e11.ne h9) (al (od_wt w3 m3 n3 (by decide) (by decide)) al0) (by decide) (by show 1 * (4000 + 2) + 3 ≤ 300000; decide)
      have g3 := up (o := .tup [.ref x3]) h9
      have gall := ((Fw.of_same (d := d) s1).trans (Fw.of_same s2)).trans ((Fw.of_same s3).trans g3)
      have q1 := ((od_wt (N := 20) (M := 300000) (d := d) w1 m1 n1 (by decide) (by decide)).fw (Fw.of_same s2)).fw ((Fw.of_same s3).trans g3)
      have q2 := (od_wt (N := 20) (M := 300000) (d := d) w2 m2 n2 (by decide) (by decide)).fw ((Fw.of_same s3).trans g3)
      have hlC := gall.kp _ _ nl1 hlB
      have fC := fB.trans gall
      have els2 := al (p := fun v => Od C d 20 300000 _ v) (o5.fw gall) (al (o6.fw gall) (al (o7.fw gall) (al (o8.fw gall) (al (ovB.fw gall) (al q1 (al q2 (al o9 (al (os (x := "\n") (by decide +kernel)) (al (os (x := "Weight(1)") (by decide +kernel)) al0)))))))))
      have els1 : ∀ v ∈ xs1, Od C d 20 300000 _ v := fun v hv => (all1B v hv).fw gall
      have nl2 := e12.ne hl2
      have e13 := e12.upd (o := .lst [.ref p5, .ref p6, .ref p7, .ref p8, v, .ref x1, .ref x2, .ref p9, .str "\n", .str "Weight(1)"]) hl2
      have g4 := up (o := .lst [.ref p5, .ref p6, .ref p7, .ref p8, v, .ref x1, .ref x2, .ref p9, .str "\n", .str "Weight(1)"]) hl2
      refine ⟨l1, l2, _, _, rfl, rfl, g4.kp _ _ nl1 hlC, upd_same, (by rw [len1]; show 18 + 10 ≤ sizeLine; decide), fun l3 hl3 => ?_⟩
      have g5 := up (o := .lst (xs1 ++ [.ref p5, .ref p6, .ref p7, .ref p8, v, .ref x1, .ref x2, .ref p9, .str "\n", .str "Weight(1)"])) hl3
      have e14 := e13.upd (o := .lst (xs1 ++ [.ref p5, .ref p6, .ref p7, .ref p8, v, .ref x1, .ref x2, .ref p9, .str "\n", .str "Weight(1)"])) hl3
      have nl3 := e13.ne hl3
      have len3 : (xs1 ++ [V.ref p5, .ref p6, .ref p7, .ref p8, v, .ref x1, .ref x2, .ref p9, .str "\n", .str "Weight(1)"]).length = 28 := by rw [List.length_append, len1]; rfl
      refine ⟨_, rfl, _, rfl, _, rfl, l3, _, rfl, .inl (SqL.of upd_same), d, _, rfl, by rw [len3]; decide, by rw [len3]; decide, e14, fun q q0 q1' H9 d9 e9' => ?_⟩
      have g6 := Fw.draw d9 e9'
      obtain ⟨x, hx, mx⟩ := at_in q0 q1'
      refine ⟨l3, _, _, x, rfl, rfl, SqL.of ((e9' l3 nl3).trans upd_same), hx, k x H9 ?_ d9 (fC.trans ((g4.trans g5).trans g6))⟩
      have g46 := (g4.trans g5).trans g6
      rcases List.mem_append.mp mx with z | z
      · exact (els1 x z).fw g46
      · exact (els2 x z).fw g46
end
end K
namespace K
open PySem L2 Rp
/-- the error NoText, at S; its __init__ at fU -/
structure STxt (K : PySem.W.Frag) (mg : Str → Option Value) (S fU : Addr) : Prop where
  g : mg "NoText" = some (.ref S)
  x : OexC K S
  i : PySem.W.findIn K (.ref S) "__init__" = some (some (.ref fU))
  t : PySem.W.typeIn K (.ref fU) = some (.type "function")
  n : PySem.W.findIn K (.ref S) "row" = some none
def spTxI (S : Addr) : Sp := fun vs H Q _ => ∃ (a : Addr) (v : V), vs = [.ref a, v] ∧ H a = some (exo a S none) ∧ ∀ dx, H dx = none → dx ≠ a → Q .non (upd (upd H dx (exd dx [(("row" : Str), v)])) a (exo a S (some dx)))
abbrev FunX (K : PySem.W.Frag) (f : Addr) (fd : FuncData) : Prop := FunD K "__init__" "NoText.__init__" (defArgs sTxI) (defBody sTxI) (defScope sTxI) [.int 0] [] f fd
def spStr (C : Addr) : Sp := fun vs H Q _ => ∃ (p : Addr) (t b : Int), vs = [.ref p] ∧ WAt C H p t b ∧ Wn 1600 t b ∧ ∀ H', Same H H' → Q (.str (wS t b)) H'
def spNumeral : Sp := fun vs H Q _ => ∃ z : Str, vs = [.str z, .str TENS, .int 12] ∧ z.length ≤ 10000 ∧ ∀ (b : Bool) (H' : Hp), Same H H' → (b = true ↔ NumX z) → Q (.bl b) H'
def spNumber : Sp := fun vs H Q _ => ∃ z : Str, vs = [.str z] ∧ z.length ≤ 10000 ∧ ∀ (b : Bool) (H' : Hp), Same H H' → (b = true ↔ NumX z) → Q (.bl b) H'
theorem iteNT {c A B : Prop} [Decidable c] (hc : ¬ c) (h : A) : if (!decide c) = true then A else B := by
  rw [decide_eq_false hc]
  exact iteT h
/-- v is the text of the Weight t / b -/
def WV (v : V) (t b : Int) : Prop := ∃ z, v = .str z ∧ IsW z t b
def spRead (K : PySem.W.Frag) (C S : Addr) : Sp := fun vs H Q E => ∃ v : V, vs = [v] ∧ Ws K H v ∧ TOk v ∧
  (∀ t b, WV v t b → ∀ (x : Addr) (H' : Hp), Same H H' → H x = none → WAt C H' x t b → Q (.ref x) H') ∧
  ((∀ t b, ¬ WV v t b) → ∀ (e : Addr) (H' : Hp), Same H H' → H' e = some (.xd [(("row" : Str), .int 0)]) → E (.ref S) (some e) H')
section
variable {P : Program} {w : World} {K : PySem.W.Frag} {mg : Str → Option Value} {base : Heap}
theorem scTxI : FnScope ["self", "row"] ["self", "row"] (defScope sTxI) := ⟨rfl, rfl, rfl, by decide +kernel, rfl, by decide +kernel, by decide +kernel⟩
theorem ok_txI {f S : Addr} {fd : FuncData} (F : FunX K f fd) (T : STxt K mg S f) : FnOk P w K mg base CX0 1 f fd ["self", "row"] (spTxI S) := by
  refine FunD_ok0 F scTxI (fun vs H Q E h => ?_) (fun cdv A outer s H vs Q E hr h => ?_)
  · obtain ⟨a, v, rfl, _⟩ := h
    rfl
  · obtain ⟨a, v, rfl, ha, k⟩ := h
    refine ⟨_, pss_one (ps_ost (pv 0) (pv 1)), ?_⟩
    exact ⟨_, rfl, _, rfl, a, S, rfl, T.x, T.n, .inl ⟨ha, fun dx h1 h2 => k dx h1 h2⟩⟩
theorem scStr : FnScope ["self"] ["self"] (defScope sStr) := ⟨rfl, rfl, rfl, by decide +kernel, rfl, by decide +kernel, by decide +kernel⟩
theorem ok_str {f C fW fS : Addr} {fd fdS : FuncData} (F : Fun K "__str__" "Weight.__str__" sStr f fd) (T : WTxt K mg C fW) (cS : Cl K mg "show_whole" fS fdS ["number"]) (GS : FnOk P w K mg base CX0 1 fS fdS ["number"] spShow) :
    FnOk P w K mg base CX0 2 f fd ["self"] (spStr C) := by
  refine F.ok scStr (fun vs H Q E h => ?_) (fun cdv A outer s H vs Q E hr h => ?_)
  · obtain ⟨p, t, b, rfl, _⟩ := h
    rfl
  · obtain ⟨p, t, b, rfl, ⟨dx, hp⟩, n1, k⟩ := h
    refine ⟨_, pss_cons (ps_if (pt_cmpR op_eq (pe_fld (pv 0) rfl) pe_int (nomark _)) (pss_one (ps_ret (pe_joined1 (pe_fmt (pe_call GS hr (by rfl) cS.g cS.k cS.b .nil pass0 (pa_cons (pe_fld (pv 0) rfl) pa_nil)))))) pss_nil)
      (pss_one (ps_ret (pe_joined (.cons (pe_fmt (pe_call GS hr (by rfl) cS.g cS.k cS.b .nil pass0 (pa_cons (pe_fld (pv 0) rfl) pa_nil))) (.cons pe_str (.cons (pe_fmt (pe_call GS hr (by rfl) cS.g cS.k cS.b .nil pass0 (pa_cons (pe_fld (pv 0) rfl) pa_nil))) .nil)))))), ?_⟩
    have l1 := nT_len n1.tz
    have l2 := nT_len n1.bz
    have e3 : ("/" : Str).length = 1 := by decide +kernel
    have e4 : (Str.empty : Str).length = 0 := by decide +kernel
    have big : ∀ n, n ≤ 10000 → n ≤ sizeLine := fun n h => Nat.le_trans h (by decide)
    refine ⟨_, rfl, p, C, dx, _, _, rfl, hp, T.cl, T.nB, wf_bottom _ _, rfl, _, rfl, ?_⟩
    refine ite2 (fun h => ?_) (fun h => ?_)
    · have hb : b = 1 := by
        have := of_decide_eq_true h
        injection this
      refine ⟨_, rfl, p, C, dx, _, _, rfl, hp, T.cl, T.nT, wf_top _ _, t, rfl, n1.t0, n1.tz, fun H1 s1 => .inl ⟨nT t, rfl, big _ (by omega), ?_⟩⟩
      have ew : wS t b = nT t := if_pos hb
      have q := k H1 s1
      rw [ew] at q
      exact q
    · have hb : ¬ b = 1 := fun z => h (decide_eq_true (by rw [z]))
      refine ⟨_, rfl, p, C, dx, _, _, rfl, hp, T.cl, T.nT, wf_top _ _, t, rfl, n1.t0, n1.tz, fun H1 s1 => .inl ⟨_, rfl, big _ (by omega), nT t, rfl, big _ (by simp only [append_len]; omega), "/", rfl, big _ (by simp only [append_len]; omega), ?_⟩⟩
      refine ⟨_, rfl, p, C, dx, _, _, rfl, s1 _ _ hp, T.cl, T.nB, wf_bottom _ _, b, rfl, Int.le_of_lt n1.b0, n1.bz, fun H2 s2 => .inl ⟨_, rfl, big _ (by omega), nT b, rfl, big _ (by simp only [append_len]; omega), ?_⟩⟩
      have ew : wS t b = Str.empty ++ nT t ++ "/" ++ nT b := by rw [emp]; exact if_neg hb
      have q := k H2 (s1.trans s2)
      rw [ew] at q
      exact q
theorem scNumeral : FnScope ["text", "signs", "most"] ["text", "signs", "most"] (defScope sNumeral) := ⟨rfl, rfl, rfl, by decide +kernel, rfl, by decide +kernel, by decide +kernel⟩
theorem ok_numeral {f fM : Addr} {fd fdM : FuncData} (F : Fun K "is_numeral" "is_numeral" sNumeral f fd) (hln : mg "len" = none) (cM : Cl K mg "made_of" fM fdM ["text", "signs"]) (GM : FnOk P w K mg base CX0 1 fM fdM ["text", "signs"] spMade) :
    FnOk P w K mg base CX0 2 f fd ["text", "signs", "most"] spNumeral := by
  refine F.ok scNumeral (fun vs H Q E h => ?_) (fun cdv A outer s H vs Q E hr h => ?_)
  · obtain ⟨z, rfl, _⟩ := h
    rfl
  · obtain ⟨z, rfl, lz, k⟩ := h
    refine ⟨_, (pss_cons (ps_if (pt_not (pt_chain op_le op_le pe_int (pe_callB call_len_str (by rfl) hln PySem.boot_len (pa_cons (pv 0) pa_nil)) (pv 2))) (pss_one (ps_ret pe_bl)) pss_nil)
    (pss_cons (ps_if (PW.pt (pw_and (pt_cmpR op_eq (pe_ix ix_str (pv 0) pe_int (fun _ _ => rfl)) pe_str (nomark _)) (pw_and1 (pt_cmpR op_ne (pv 0) pe_str (nomark _))))) (pss_one (ps_ret pe_bl)) pss_nil)
    (pss_one (ps_ret (pe_call GM (hr.mono (by decide)) (by rfl) cM.g cM.k cM.b .nil pass0 (pa_cons (pv 0) (pa_cons (pv 1) pa_nil))))))), ?_⟩
    have hz : z.length ≤ sizeLine := Nat.le_trans lz (by decide)
    refine ⟨_, rfl, z, rfl, hz, _, _, rfl, rfl, _, rfl, ?_⟩
    by_cases h1 : 1 ≤ z.length
    · rw [decide_eq_true (show (1 : Int) ≤ (z.length : Nat) by omega)]
      refine iteT ⟨_, rfl, _, _, rfl, rfl, _, rfl, ?_⟩
      by_cases h2 : z.length ≤ 12
      · rw [decide_eq_true (show (z.length : Int) ≤ 12 by omega)]
        refine iteF ?_
        obtain ⟨c, r, hcr⟩ := first_of h1
        refine ⟨_, rfl, z, 0, c, rfl, rfl, hz, atI_nat (j := 0) (by rw [hcr]; rfl), rfl, _, rfl, ?_⟩
        have hh : z.cps.toList.head? = some 48 → c = 48 := fun e => by rw [hcr] at e; exact Option.some.inj e
        refine ite2 (fun h3 => ?_) (fun h3 => ?_)
        · have hc : c = 48 := zero_sign (by injection of_decide_eq_true h3)
          refine ⟨_, rfl, rfl, _, rfl, ?_⟩
          by_cases h4 : z = "0"
          · rw [decide_eq_true (show V.str z = V.str "0" by rw [h4])]
            refine iteF ?_
            refine ⟨_, rfl, _, rfl, z, TENS, rfl, lz, fun H' e => ?_⟩
            exact k _ H' e (num_iff h1 h2 fun _ => h4)
          · rw [decide_eq_false (show ¬ V.str z = V.str "0" from fun q => h4 (by injection q))]
            refine iteT ?_
            refine k false H (Same.refl H) ⟨fun q => (nomatch q), fun q => absurd (q.head ?_) h4⟩
            rw [hcr, hc]
            rfl
        · refine ⟨_, rfl, _, rfl, z, TENS, rfl, lz, fun H' e => ?_⟩
          refine k _ H' e (num_iff h1 h2 fun e2 => absurd ?_ h3)
          rw [hh e2]
          exact decide_eq_true (by rw [sign_zero])
      · rw [decide_eq_false (show ¬ (z.length : Int) ≤ 12 by omega)]
        refine iteT ?_
        exact k false H (Same.refl H) ⟨fun q => (nomatch q), fun q => absurd q.len.2 h2⟩
    · rw [decide_eq_false (show ¬ (1 : Int) ≤ (z.length : Nat) by omega)]
      refine iteF ⟨_, rfl, iteT ?_⟩
      exact k false H (Same.refl H) ⟨fun q => (nomatch q), fun q => absurd q.len.1 h1⟩
theorem scNumber : FnScope ["text"] ["text"] (defScope sNumber) := ⟨rfl, rfl, rfl, by decide +kernel, rfl, by decide +kernel, by decide +kernel⟩
theorem ok_number {f fN : Addr} {fd fdN : FuncData} {zT : Str} {tT tM : Tok} {zM : Int} (F : Fun K "is_number" "is_number" sNumber f fd) (cN : Cl K mg "is_numeral" fN fdN ["text", "signs", "most"]) (GN : FnOk P w K mg base CX0 2 fN fdN ["text", "signs", "most"] spNumeral)
    (hT : mg "TENS" = some (.str zT tT)) (eT : zT = TENS) (hM : mg "MOST_FIGURES" = some (.int zM tM)) (eM : zM = 12) : FnOk P w K mg base CX0 3 f fd ["text"] spNumber := by
  subst eT eM
  refine F.ok scNumber (fun vs H Q E h => ?_) (fun cdv A outer s H vs Q E hr h => ?_)
  · obtain ⟨n, rfl, _⟩ := h
    rfl
  · obtain ⟨z, rfl, lz, k⟩ := h
    refine ⟨_, (pss_one (ps_ret (pe_call GN (hr.mono (by decide)) (by rfl) cN.g cN.k cN.b .nil pass0 (pa_cons (pv 0) (pa_cons (pe_glob (v := .str TENS) rfl hT ⟨_, rfl⟩) (pa_cons (pe_glob (v := .int 12) rfl hM ⟨_, rfl⟩) pa_nil)))))), ?_⟩
    exact ⟨_, rfl, z, rfl, lz, k⟩
theorem scRead : FnScope ["text", "top", "stroke", "bottom", "weight"] ["text"] (defScope sRead) := ⟨rfl, rfl, rfl, by decide +kernel, rfl, by decide +kernel, by decide +kernel⟩
theorem ok_read {f C S fW fI fN fS fU : Addr} {fd fdI fdN fdS fdU : FuncData} (F : Fun K "read_weight" "read_weight" sRead f fd) (T : WTxt K mg C fW) (B : Blt mg) (hst : mg "str" = none)
    (M : Mk K C fI) (GI : FnOk P w K mg base CX0 2 fI fdI ["self", "top", "bottom"] (spInit C)) (bI : Binds K fdI ["self", "top", "bottom"] [])
    (cN : Cl K mg "is_number" fN fdN ["text"]) (GN : FnOk P w K mg base CX0 3 fN fdN ["text"] spNumber)
    (GS : FnOk P w K mg base CX0 2 fS fdS ["self"] (spStr C)) (ss : PySem.W.findIn K (.ref C) "__str__" = some (some (.ref fS))) (sf : PySem.W.isFn K (.ref fS) = true) (bS : Binds K fdS ["self"] [])
    (Z : STxt K mg S fU) (GU : FnOk P w K mg base CX0 1 fU fdU ["self", "row"] (spTxI S)) (bU : Binds K fdU ["self", "row"] []) : FnOk P w K mg base (L2.CX P w) 5 f fd ["text"] (spRead K C S) := by
  refine F.okX scRead (fun vs H Q E h => ?_) (fun cdv A outer s H vs Q E hr h => ?_)
  · obtain ⟨v, rfl, _⟩ := h
    rfl
  · obtain ⟨v, rfl, ⟨tv, ty, ks⟩, tk, k, kx⟩ := h
    refine ⟨_, (pss_cons (ps_if (pt_not (pt_val (pe_callB call_isi (by rfl) B.isi (by decide +kernel) (pa_cons (pv 0) (pa_cons (pe_bltn (v := .ty "str") (by rfl) hst (by decide +kernel) rfl) pa_nil))))) (pss_one (ps_raise rfl (takes_of rfl rfl rfl rfl) (pmk_oex Z.x Z.i Z.t GU (hr.mono (by decide)) bU .nil pass0 (by rfl) Z.g (pa_cons pe_int pa_nil)))) pss_nil)
    (pss_cons (ps_asg (pe_partition (pv 0) pe_str) (pg_tup rfl (pgs_cons (pg_name (i := 1) scRead.nd rfl (Or.inl rfl)) (pgs_cons (pg_name (i := 2) scRead.nd rfl (Or.inl rfl)) (pgs_cons (pg_name (i := 3) scRead.nd rfl (Or.inl rfl)) pgs_nil)))))
    (pss_cons (ps_if (pt_not (pt_truth (pv 2) (by intro _; rfl))) (pss_one (ps_set (i := 3) scRead.nd rfl (Or.inl rfl) pe_str)) pss_nil)
    (pss_cons (ps_if (PW.pt (pw_or (pt_not (pt_val (pe_call GN (hr.mono (by decide)) (by rfl) cN.g cN.k cN.b .nil pass0 (pa_cons (pv 1) pa_nil)))) (pw_or (pt_not (pt_val (pe_call GN (hr.mono (by decide)) (by rfl) cN.g cN.k cN.b .nil pass0 (pa_cons (pv 3) pa_nil)))) (pw_or1 (pt_cmpR op_eq (pv 3) pe_str (nomark _)))))) (pss_one (ps_raise rfl (takes_of rfl rfl rfl rfl) (pmk_oex Z.x Z.i Z.t GU (hr.mono (by decide)) bU .nil pass0 (by rfl) Z.g (pa_cons pe_int pa_nil)))) pss_nil)
    (pss_cons (ps_set (i := 4) scRead.nd rfl (Or.inl rfl) (pe_make M GI (hr.mono (by decide)) (by rfl) T.mgC bI .nil pass0 (pa_cons (pe_callTy call_int_str (by rfl) B.int (by decide +kernel) (pa_cons (pv 1) pa_nil)) (pa_cons (pe_callTy call_int_str (by rfl) B.int (by decide +kernel) (pa_cons (pv 3) pa_nil)) pa_nil))))
    (pss_cons (ps_if (pt_cmpR op_ne (pe_callTy (cr_strO GS ss sf bS (E := E0) pass0 (hr.mono (by decide))) (by rfl) hst (by decide +kernel) (pa_cons (pv 4) pa_nil)) (pv 0) (nomark _)) (pss_one (ps_raise rfl (takes_of rfl rfl rfl rfl) (pmk_oex Z.x Z.i Z.t GU (hr.mono (by decide)) bU .nil pass0 (by rfl) Z.g (pa_cons pe_int pa_nil)))) pss_nil)
    (pss_one (ps_ret (pv 4))))))))), ?_⟩
    have big : ∀ n, n ≤ 10000 → n ≤ sizeLine := fun n h => Nat.le_trans h (by decide)
    have raise : ∀ H2, Same H H2 → (∀ t b, ¬ WV v t b) → ∀ (a : Addr), H2 a = none → ∀ e, upd H2 a (exo a S none) e = none → e ≠ a → E (.ref S) (some e) (upd (del (upd (upd (upd H2 a (exo a S none)) e (exd e [(("row" : Str), V.int 0)])) a (exo a S (some e))) a) e (.xd [(("row" : Str), .int 0)])) := fun H2 s2 nf a ha e he hne => by
      have he1 : H2 e = none := by rw [← upd_ne (H := H2) (o := exo a S none) hne]; exact he
      refine kx nf e _ (s2.trans fun y o hy => ?_) upd_same
      have y1 := ne_of_none hy ha
      have y2 := ne_of_none hy he1
      rw [upd_ne y2, del_ne y1, upd_ne y1, upd_ne y2, upd_ne y1]
      exact hy
    have raised : ∀ H2 (a : Addr), H2 a = none → ∀ e, upd H2 a (exo a S none) e = none → e ≠ a → H2 e = none := fun H2 a ha e he hne => by rw [← upd_ne (H := H2) (o := exo a S none) hne]; exact he
    refine ⟨_, rfl, _, .ty "str", _, _, isS v, rfl, .ty _, ty, ks, isS v, rfl, ?_⟩
    by_cases hs : isS v = true
    · obtain ⟨z, rfl⟩ : ∃ z, v = .str z := by cases v <;> first | exact ⟨_, rfl⟩ | cases hs
      obtain ⟨az, lz⟩ := tk z rfl
      refine iteF ⟨_, rfl, ⟨_, rfl⟩, z, "/", rfl, rfl, by decide +kernel, big _ lz, fun p hp => ?_⟩
      have nfx : ∀ {x y : Str}, Pc z x y → ¬ (NumX x ∧ NumX y ∧ y ≠ "0") → ∀ t b, ¬ WV (.str z) t b := fun pc n t b ⟨z', e, w⟩ => by
        cases e
        exact n (w.nums pc)
      rcases stroke_cases z with hz | ⟨a, c, ez, ha⟩
      rw [TL.partition_none stroke_tl hz]
      dsimp only
      refine ⟨p, _, rfl, SqT.of upd_same, rfl, _, _, rfl, _, _, rfl, _, _, rfl, rfl, ?_⟩
      have s1 := same_upd (o := .tup [.str z, .str Str.empty, .str Str.empty]) hp
      refine ⟨_, rfl, false, ⟨by decide +kernel, by decide +kernel⟩, iteT ?_⟩
      have pc := pc_one hz
      have lx := lz
      have ly : ("1" : Str).length ≤ 10000 := by decide +kernel
      rotate_left
      rw [ez, TL.partition_app stroke_tl ha]
      dsimp only
      refine ⟨p, _, rfl, SqT.of upd_same, rfl, _, _, rfl, _, _, rfl, _, _, rfl, rfl, ?_⟩
      have s1 := same_upd (o := .tup [.str a, .str "/", .str c]) hp
      refine ⟨_, rfl, true, ⟨by decide +kernel, by decide +kernel⟩, iteF ?_⟩
      rw [← ez]
      have pc := (pc_two ez ha).1
      have lx : a.length ≤ 10000 := by rw [ez, append_len, append_len] at lz; omega
      have ly : c.length ≤ 10000 := by rw [ez, append_len, append_len] at lz; omega
      all_goals
        refine ⟨_, rfl, _, rfl, lx, fun b1 H2 s2 i1 => ⟨_, rfl, ite2 (fun h1 => ?_) (fun h1 => ?_)⟩⟩
        · have nf := nfx pc fun q => by rw [i1.mpr q.1] at h1; cases h1
          exact ⟨(by show 1 ≤ 1000; decide), fun a ha => ⟨a, _, rfl, upd_same, fun e he hne => ⟨rfl, e, _, upd_same, by rw [upd_ne hne]; exact upd_same, raised H2 a ha e he hne, raise H2 (s1.trans s2) nf a ha e he hne⟩⟩⟩
        · have h1 : b1 = true := by cases b1 <;> first | rfl | exact absurd rfl h1
          refine ⟨_, rfl, _, rfl, ly, fun b2 H3 s3 i2 => ⟨_, rfl, ite2 (fun h2 => ?_) (fun h2 => ?_)⟩⟩
          · have nf := nfx pc fun q => by rw [i2.mpr q.2.1] at h2; cases h2
            exact ⟨(by show 1 ≤ 1000; decide), fun a ha => ⟨a, _, rfl, upd_same, fun e he hne => ⟨rfl, e, _, upd_same, by rw [upd_ne hne]; exact upd_same, raised H3 a ha e he hne, raise H3 ((s1.trans s2).trans s3) nf a ha e he hne⟩⟩⟩
          · have h2 : b2 = true := by cases b2 <;> first | rfl | exact absurd rfl h2
            refine ⟨_, rfl, rfl, _, rfl, ite2 (fun h3 => ?_) (fun h3 => ?_)⟩
            · have nf := nfx pc fun q => q.2.2 (by injection of_decide_eq_true h3)
              exact ⟨(by show 1 ≤ 1000; decide), fun a ha => ⟨a, _, rfl, upd_same, fun e he hne => ⟨rfl, e, _, upd_same, by rw [upd_ne hne]; exact upd_same, raised H3 a ha e he hne, raise H3 ((s1.trans s2).trans s3) nf a ha e he hne⟩⟩⟩
            · have x1 := i1.mp h1
              have x2 := i2.mp h2
              have le1 := x1.len.2
              have le2 := x2.len.2
              obtain ⟨n, n0, n1, en⟩ := x1
              obtain ⟨m, m0', m1, em⟩ := x2
              have m0 : 0 < m := by
                rcases Int.lt_or_eq_of_le m0' with q | q
                · exact q
                · exact absurd (decide_eq_true (by rw [em, ← q, nT_zero])) h3
              have pc : Pc z (nT n) (nT m) := fun t b w => by
                rw [← en, ← em]
                exact pc t b w
              have wn : Wn 40 n m := ⟨n0, m0, by unfold Sz; omega, by unfold Sz; omega⟩
              refine ⟨_, rfl, _, n, rfl, by rw [en]; exact nT_int n0 (by rw [← en]; omega), by omega, _, rfl, _, m, rfl, by rw [em]; exact nT_int m0' (by rw [← em]; omega), by omega, ?_⟩
              intro x dz nx ndz ne
              refine ⟨x, dz, n, m, rfl, upd_same, n0, m0, wn.bz.mono (by decide), rfl, ?_⟩
              have s4 := same_make (C := C) (fs := wf (lowT n m) (lowB n m)) nx ndz
              refine ⟨_, rfl, x, dz, _, rfl, upd_same, x, lowT n m, lowB n m, rfl, ⟨dz, upd_same⟩, wn.low.mono (by decide), fun H5 s5 => ⟨wS (lowT n m) (lowB n m), rfl, ?_⟩⟩
              have sA := (((s1.trans s2).trans s3).trans s4).trans s5
              refine ⟨_, rfl, rfl, _, rfl, ?_⟩
              by_cases hw : wS (lowT n m) (lowB n m) = z
              · refine iteNS (by rw [hw]) ?_
                exact ⟨_, rfl, k _ _ ⟨z, rfl, isw_of n0 n1 m0 m1 hw⟩ x _ sA (Fw.same (d := x) ((s1.trans s2).trans s3) x nx) ⟨dz, s5 _ _ upd_same⟩⟩
              · have nf : ∀ t b, ¬ WV (.str z) t b := fun t b ⟨z', e, w'⟩ => by
                  cases e
                  exact not_isw n0 m0 pc hw t b w'
                refine iteNT ?_ ?_
                · exact fun q => hw (by injection q)
                exact ⟨(by show 1 ≤ 1000; decide), fun a ha => ⟨a, _, rfl, upd_same, fun e he hne => ⟨rfl, e, _, upd_same, by rw [upd_ne hne]; exact upd_same, raised H5 a ha e he hne, raise H5 sA nf a ha e he hne⟩⟩⟩
    · have hs' : isS v = false := by simpa using hs
      rw [hs']
      have nf : ∀ t b, ¬ WV v t b := fun t b ⟨z, e, _⟩ => by rw [e] at hs; exact hs rfl
      refine iteT ?_
      exact ⟨(by show 1 ≤ 1000; decide), fun a ha => ⟨a, _, rfl, upd_same, fun e he hne => ⟨rfl, e, _, upd_same, by rw [upd_ne hne]; exact upd_same, raised H a ha e he hne, raise H (Same.refl H) nf a ha e he hne⟩⟩⟩
end
end K
namespace K
open PySem L2 Rp
def spNumIn : Sp := fun vs H Q _ => ∃ z : Str, vs = [.str z] ∧ Asc z ∧ z.length ≤ 10000 ∧ (∀ n : Int, 0 ≤ n → n < 1000000000000 → z = nT n → ∀ H', Same H H' → Q (.int n) H') ∧ (¬ NumX z → ∀ H', Same H H' → Q .non H')
def spLRead : Sp := fun vs H Q _ => ∃ z : Str, vs = [.str z] ∧ Asc z ∧ z.length ≤ 10000 ∧
  (∀ t b, IsW z t b → ∀ (p : Addr) (H' : Hp), Same H H' → H' p = some (.tup [.int t, .int b]) → Q (.ref p) H') ∧ ((∀ t b, ¬ IsW z t b) → ∀ H', Same H H' → Q .non H')
section
variable {P : Program} {w : World} {K : PySem.W.Frag} {mg : Str → Option Value} {base : Heap}
theorem scNumIn : FnScope ["_law_word", "_law_sign_here"] ["_law_word"] (defScope sNumIn) := ⟨rfl, rfl, rfl, by decide +kernel, rfl, by decide +kernel, by decide +kernel⟩
theorem ok_numin {f : Addr} {fd : FuncData} (F : Fun K "_law_number_in" "_law_number_in" sNumIn f fd) (B : Blt mg) (hln : mg "len" = none) : FnOk P w K mg base CX0 1 f fd ["_law_word"] spNumIn := by
  refine F.ok scNumIn (fun vs H Q E h => ?_) (fun cdv A outer s H vs Q E hr h => ?_)
  · obtain ⟨z, rfl, _⟩ := h
    rfl
  · obtain ⟨z, rfl, az, lz, k, kn⟩ := h
    refine ⟨_, (pss_cons (ps_if (PW.pt (pw_or (pt_not (pt_chain op_lt op_lt pe_int (pe_callB call_len_str (by rfl) hln PySem.boot_len (pa_cons (pv 0) pa_nil)) pe_int)) (pw_or1 (pt_cmpR (op_neD hr.units) (pe_lc (own := [("_law_sign_here", 1)]) (g := gName 1) (tt := _) (by rfl) scNumIn.nd (pi_str (pv 0)) (blkOk_by (own := [("_law_sign_here", 1)]) (N := ["_law_word", "_law_sign_here"]) (sc := defScope sNumIn) (by decide +kernel)) (fun _ _ _ _ _ => (pg_name (i := 1) scNumIn.nd rfl (Or.inl rfl))) (fun _ _ _ _ _ => pts_one (pt_cmpR op_notIn_sign (pv 1) pe_str (by with_unfolding_all rfl))) (fun _ _ _ _ _ => (pv 1))) (pe_lst pa_nil) (nomark _))))) (pss_one (ps_ret pe_non)) pss_nil)
    (pss_cons (ps_if (PW.pt (pw_and (pt_cmpR op_ne (pv 0) pe_str (nomark _)) (pw_and1 (pt_cmpR op_eq (pe_ix ix_str (pv 0) pe_int (fun _ _ => rfl)) pe_str (nomark _))))) (pss_one (ps_ret pe_non)) pss_nil)
    (pss_one (ps_ret (pe_callTy call_int_str (by rfl) B.int (by decide +kernel) (pa_cons (pv 0) pa_nil)))))), ?_⟩
    have hz : z.length ≤ sizeLine := Nat.le_trans lz (by decide)
    have out : ∀ H', Same H H' → ¬ (1 ≤ z.length ∧ z.length ≤ 12) → Q .non H' := fun H' e n => kn (fun q => n q.len) H' e
    refine ⟨_, rfl, z, rfl, hz, _, _, rfl, rfl, _, rfl, ?_⟩
    by_cases h1 : 1 ≤ z.length
    rotate_left
    · rw [decide_eq_false (show ¬ (0 : Int) < (z.length : Nat) by omega)]
      refine iteF ⟨_, rfl, iteT ?_⟩
      exact out H (Same.refl H) fun q => h1 q.1
    rw [decide_eq_true (show (0 : Int) < (z.length : Nat) by omega)]
    refine iteT ⟨_, _, rfl, rfl, _, rfl, ?_⟩
    by_cases h2 : z.length ≤ 12
    rotate_left
    · rw [decide_eq_false (show ¬ (z.length : Int) < 13 by omega)]
      refine iteT ?_
      exact out H (Same.refl H) fun q => h2 q.2
    rw [decide_eq_true (show (z.length : Int) < 13 by omega)]
    refine iteF ?_
    refine ⟨_, rfl, z, rfl, fun D hD => ?_⟩
    have sub : ∀ l : List Nat, (∀ c ∈ l, c < 128) → ∀ g ∈ (l.filter fun c => !inL TENS c).map (fun c => (⟨#[c]⟩ : Str)), Asc g := fun l hl g hg => by
      obtain ⟨c, hc, rfl⟩ := List.mem_map.mp hg
      exact asc_one (hl c (List.mem_filter.mp hc).1)
    refine lc_str (fun i H2 => Same H H2 ∧ H2 D = some (.lst ((((z.cps.toList.take i).filter fun c => !inL TENS c).map (fun c => (⟨#[c]⟩ : Str))).map V.str))) ?_ ?_ ?_
    · exact ⟨same_upd hD, upd_same⟩
    · rintro i c H2 hc ⟨s2, hA⟩
      have hi : i < z.cps.size := (Array.getElem?_eq_some_iff.mp hc).1
      have hc' : z.cps.toList[i]? = some c := by rw [Array.getElem?_toList]; exact hc
      refine ⟨rfl, _, rfl, c, _, rfl, rfl, _, rfl, ?_⟩
      have et : z.cps.toList.take (i + 1) = z.cps.toList.take i ++ [c] := by rw [List.take_add_one, hc']; rfl
      by_cases hm : c ∈ (TENS : Str).cps.toList
      · rw [decide_eq_true hm]
        refine iteF ⟨s2, ?_⟩
        rw [et, List.filter_append]
        have hb : inL TENS c = true := decide_eq_true hm
        have : [c].filter (fun c => !inL TENS c) = [] := by simp [hb]
        rw [this, List.append_nil]
        exact hA
      · rw [decide_eq_false hm]
        refine iteT ⟨_, rfl, _, hA, ?_, ?_, ?_⟩
        · rw [List.length_map, List.length_map]
          have l1 := List.length_filter_le (fun c => !inL TENS c) (z.cps.toList.take i)
          rw [List.length_take] at l1
          have l2 : i < z.length := hi
          have l3 : (sizeLine : Nat) ≥ 10001 := by decide
          omega
        · exact fun y o e => by
            rw [upd_ne (ne_of_none e hD)]
            exact s2 y o e
        · rw [upd_same, et, List.filter_append]
          have hb : inL TENS c = false := decide_eq_false hm
          have : [c].filter (fun c => !inL TENS c) = [c] := by simp [hb]
          rw [this, List.map_append, List.map_append]
          rfl
    · rintro H2 ⟨s2, hA⟩
      have et : z.cps.toList.take z.cps.size = z.cps.toList := List.take_of_length_le (by simp)
      rw [et] at hA
      refine ⟨Nat.zero_le _, fun q hq => ?_⟩
      refine ⟨.list (((z.cps.toList.filter fun c => !inL TENS c).map (fun c => (⟨#[c]⟩ : Str))).map PyData.str), .list [], .lst (SqL.of (same_upd hq _ _ hA)) (dp_strs _), .lst (SqL.of upd_same) .nil, shaped_strs (sub _ az), rfl, _, rfl, ?_⟩
      have ev : PyData.eqv (.list (((z.cps.toList.filter fun c => !inL TENS c).map (fun c => (⟨#[c]⟩ : Str))).map PyData.str)) (.list []) = z.cps.toList.all (inL TENS) := by
        show PyData.eqvAll _ [] = _
        rw [eqvAll_strs, Bool.eq_iff_iff, decide_eq_true_iff, List.map_eq_nil_iff, List.filter_eq_nil_iff, List.all_eq_true]
        simp
      rw [ev]
      have s3 := s2.trans (same_upd (o := .lst []) hq)
      by_cases h3 : z.cps.toList.all (inL TENS) = true
      rotate_left
      · have h4 : z.cps.toList.all (inL TENS) = false := by simpa using h3
        rw [h4]
        refine iteT ?_
        exact kn (fun q => h3 q.all) _ s3
      rw [h3]
      refine iteF ?_
      refine ⟨_, rfl, rfl, _, rfl, ?_⟩
      obtain ⟨c, r, hcr⟩ := first_of h1
      have last : ∀ H', Same H H' → (z.cps.toList.head? = some 48 → z = "0") → ∃ a n, [V.str z] = [V.str a] ∧ intText? a = some n ∧ a.length ≤ 640 ∧ Q (.int n) H' := fun H' e hd => by
        obtain ⟨n, n0, n1, en⟩ := num_of h1 h2 hd h3
        exact ⟨z, n, rfl, by rw [en]; exact nT_int n0 (by rw [← en]; omega), by omega, k n n0 n1 en H' e⟩
      by_cases h4 : z = "0"
      · refine iteNS (by rw [h4]) ?_
        exact ⟨_, rfl, last _ s3 fun _ => h4⟩
      · refine iteNT (fun q => h4 (by injection q)) ?_
        refine ⟨_, rfl, z, 0, c, rfl, rfl, hz, atI_nat (j := 0) (by rw [hcr]; rfl), rfl, _, rfl, ite2 (fun h5 => ?_) (fun h5 => ?_)⟩
        · have hc : c = 48 := zero_sign (by injection of_decide_eq_true h5)
          refine kn (fun q => h4 (q.head ?_)) _ s3
          rw [hcr, hc]
          rfl
        · refine ⟨_, rfl, last _ s3 fun e => absurd ?_ h5⟩
          have : c = 48 := by rw [hcr] at e; exact Option.some.inj e
          exact decide_eq_true (by rw [this, sign_zero])
end
noncomputable def numV (z : Str) : V := open Classical in if h : NumX z then .int h.choose else .non
theorem numV_pos {z : Str} (h : NumX z) : ∃ n : Int, 0 ≤ n ∧ n < 1000000000000 ∧ z = nT n ∧ numV z = .int n := by
  obtain ⟨h0, h1, h2⟩ := h.choose_spec
  exact ⟨h.choose, h0, h1, h2, by unfold numV; rw [dif_pos h]⟩
theorem numV_neg {z : Str} (h : ¬ NumX z) : numV z = .non := by
  unfold numV
  rw [dif_neg h]
theorem numV_flat (z : Str) : flatV (numV z) = true := by
  by_cases h : NumX z
  · obtain ⟨n, _, _, _, e⟩ := numV_pos h
    rw [e]
    rfl
  · rw [numV_neg h]
    rfl
theorem numV_int {z : Str} {n : Int} (n0 : 0 ≤ n) (n1 : n < 1000000000000) (e : z = nT n) : numV z = .int n := by
  obtain ⟨m, m0, _, e2, e3⟩ := numV_pos ⟨n, n0, n1, e⟩
  rw [e3, nT_inj m0 n0 (e2.symm.trans e)]
theorem inV_pos {z : Str} (h : NumX z) : eqV (numV z) .non = false := by
  obtain ⟨n, _, _, _, e⟩ := numV_pos h
  rw [e]
  rfl
theorem inV_neg {z : Str} (h : ¬ NumX z) : eqV (numV z) .non = true := by
  rw [numV_neg h]
  rfl
section
variable {P : Program} {w : World} {K : PySem.W.Frag} {mg : Str → Option Value} {base : Heap}
theorem scLRead : FnScope ["_law_text", "_law_pieces", "_law_numbers", "_law_piece"] ["_law_text"] (defScope sLRead) := ⟨rfl, rfl, rfl, by decide +kernel, rfl, by decide +kernel, by decide +kernel⟩
theorem ok_lread {f fN fD : Addr} {fd fdN fdD : FuncData} (F : Fun K "_law_read" "_law_read" sLRead f fd) (hln : mg "len" = none) (cN : Cl K mg "_law_number_in" fN fdN ["_law_word"]) (GN : FnOk P w K mg base CX0 1 fN fdN ["_law_word"] spNumIn)
    (cD : Cl K mg "_law_divides" fD fdD ["_law_one", "_law_other"]) (GD : FnOk P w K mg base CX0 1 fD fdD ["_law_one", "_law_other"] spDiv) : FnOk P w K mg base CX0 2 f fd ["_law_text"] spLRead := by
  refine F.ok scLRead (fun vs H Q E h => ?_) (fun cdv A outer s H vs Q E hr h => ?_)
  · obtain ⟨z, rfl, _⟩ := h
    rfl
  · obtain ⟨z, rfl, az, lz, k, kn⟩ := h
    refine ⟨_, (pss_cons (ps_set (i := 1) scLRead.nd rfl (Or.inl rfl) (pe_split (pv 0) pe_str))
    (pss_cons (ps_if (pt_cmpR op_gt (pe_callB call_len_seq (by rfl) hln PySem.boot_len (pa_cons (pv 1) pa_nil)) pe_int (nomark _)) (pss_one (ps_ret pe_non)) pss_nil)
    (pss_cons (ps_setLc (i := 2) (own := [("_law_piece", 3)]) (g := gName 3) (tt := tYes) (by rfl) scLRead.nd rfl rfl (sw_true rfl rfl rfl (by decide +kernel)) (pi_list (pv 1)) (blkOk_by (own := [("_law_piece", 3)]) (N := ["_law_text", "_law_pieces", "_law_numbers", "_law_piece"]) (sc := defScope sLRead) (by decide +kernel)) (fun _ _ _ _ _ => (pg_name (i := 3) scLRead.nd rfl (Or.inl rfl))) (fun _ _ _ _ _ => pts_nil) (fun _ _ _ _ _ => (pe_call GN (hr.mono (by decide)) (by rfl) cN.g cN.k cN.b .nil pass0 (pa_cons (pv 3) pa_nil))))
    (pss_cons (ps_if (pt_cmpR op_in_seq pe_non (pv 2) (by with_unfolding_all rfl)) (pss_one (ps_ret pe_non)) pss_nil)
    (pss_cons (ps_if (pt_cmpR op_eq (pe_callB call_len_seq (by rfl) hln PySem.boot_len (pa_cons (pv 2) pa_nil)) pe_int (nomark _)) (pss_one (ps_ret (pe_tup (pa_cons (pe_ix ix_list (pv 2) pe_int (fun _ _ => rfl)) (pa_cons pe_int pa_nil))))) pss_nil)
    (pss_cons (ps_if (PW.pt (pw_or (pt_cmpR op_lt (pe_ix ix_list (pv 2) pe_int (fun _ _ => rfl)) pe_int (nomark _)) (pw_or1 (pt_cmpR op_ne (pe_call GD (hr.mono (by decide)) (by rfl) cD.g cD.k cD.b .nil pass0 (pa_cons (pe_ix ix_list (pv 2) pe_int (fun _ _ => rfl)) (pa_cons (pe_ix ix_list (pv 2) pe_int (fun _ _ => rfl)) pa_nil))) pe_int (nomark _))))) (pss_one (ps_ret pe_non)) pss_nil)
    (pss_one (ps_ret (pe_tup (pa_cons (pe_ix ix_list (pv 2) pe_int (fun _ _ => rfl)) (pa_cons (pe_ix ix_list (pv 2) pe_int (fun _ _ => rfl)) pa_nil))))))))))), ?_⟩
    refine ⟨_, rfl, ⟨_, rfl⟩, z, "/", rfl, rfl, by decide +kernel, Nat.le_trans (show _ ≤ 10002 by omega) (by decide), fun p hp => ?_⟩
    have hsl := split_ne z
    have hsc := split_cases z
    have hnp : Txt.split z "/" = Txt.split z "/" := rfl
    have apc : ∀ x ∈ Txt.split z "/", (x.length ≤ 10000 ∧ Asc x) ∨ 2 < (Txt.split z "/").length := fun x hx => by
      rcases hsc with ⟨e, _⟩ | ⟨a, c, ez, _, e⟩ | ⟨h, _⟩
      · rw [e] at hx
        rw [List.mem_singleton.mp hx]
        exact .inl ⟨lz, az⟩
      · rw [e] at hx
        refine .inl ?_
        rw [ez, append_len, append_len] at lz
        have sub : ∀ q ∈ z.cps.toList, q < 128 := az
        have ez' : z.cps.toList = TL.tl a ++ [47] ++ TL.tl c := by
          have := congrArg TL.tl ez
          rw [TL.tl_append, TL.tl_append, stroke_tl] at this
          exact this
        rw [ez'] at sub
        rcases List.mem_cons.mp hx with rfl | hx
        · exact ⟨by omega, fun q hq => sub q (List.mem_append_left _ (List.mem_append_left _ hq))⟩
        · rw [List.mem_singleton.mp hx]
          exact ⟨by omega, fun q hq => sub q (List.mem_append_right _ hq)⟩
      · exact .inr h
    generalize hps : Txt.split z "/" = ps at *
    have s1 := same_upd (o := .lst (ps.map V.str)) hp
    have hL : (upd H p (.lst (ps.map V.str))) p = some (.lst (ps.map V.str)) := upd_same
    generalize upd H p (.lst (ps.map V.str)) = H1 at *
    refine ⟨_, rfl, p, _, rfl, .inl (SqL.of hL), _, _, rfl, rfl, _, rfl, ?_⟩
    rw [List.length_map]
    by_cases h3 : 2 < ps.length
    · rw [decide_eq_true (show (2 : Int) < (ps.length : Nat) by omega)]
      refine iteT ?_
      refine kn (fun t b w => ?_) H1 s1
      rcases hsc with ⟨e, _⟩ | ⟨a, c, ez, _, e⟩ | ⟨_, h⟩
      · rw [e] at h3
        exact absurd h3 (by show ¬ 2 < 1; decide)
      · rw [e] at h3
        exact absurd h3 (by show ¬ 2 < 2; decide)
      · exact h t b w
    rw [decide_eq_false (show ¬ (2 : Int) < (ps.length : Nat) by omega)]
    refine iteF ?_
    refine ⟨_, rfl, p, rfl, ⟨_, SqL.of hL⟩, fun D hD => ?_⟩
    refine lc_list (K := K) (a := p) (xs := ps.map V.str) (fun i H2 => Same H1 H2 ∧ H2 D = some (.lst ((ps.take i).map numV))) ?_ ?_ ?_ ?_
    · exact ⟨same_upd hD, upd_same⟩
    · rintro i H2 _ ⟨s2, _⟩
      exact SqL.of (s2 _ _ hL)
    · rintro i x H2 hx ⟨s2, hA⟩
      rw [List.getElem?_map] at hx
      obtain ⟨y, hy, rfl⟩ := Option.map_eq_some_iff.mp hx
      have my := List.mem_of_getElem? hy
      obtain ⟨ly, ay⟩ := (apc y my).resolve_right h3
      refine ⟨rfl, tYes_of ?_⟩
      rw [if_pos rfl]
      have et : ps.take (i + 1) = ps.take i ++ [y] := by rw [List.take_add_one, hy]; rfl
      have fin : ∀ (w : V) (H' : Hp), Same H2 H' → numV y = w → ∃ acc, H' D = some (.lst acc) ∧ acc.length < sizeLine ∧ Same H1 (upd H' D (.lst (acc ++ [w]))) ∧ (upd H' D (.lst (acc ++ [w]))) D = some (.lst ((ps.take (i + 1)).map numV)) := fun w H' e ew => by
        refine ⟨_, e _ _ hA, ?_, fun q o hq => ?_, ?_⟩
        · rw [List.length_map, List.length_take]
          exact Nat.lt_of_le_of_lt (Nat.min_le_right _ _) (Nat.lt_of_le_of_lt (show ps.length ≤ 2 by omega) (by decide))
        · rw [upd_ne (ne_of_none hq hD)]
          exact e _ _ (s2 _ _ hq)
        · rw [upd_same, et, List.map_append, ← ew]
          rfl
      exact ⟨_, rfl, y, rfl, ay, ly, fun n n0 n1 en H' e => fin _ H' e (numV_int n0 n1 en), fun nn H' e => fin _ H' e (numV_neg nn)⟩
    · rintro H2 ⟨s2, hA⟩
      rw [List.length_map, List.take_length] at hA
      have sA := s1.trans s2
      refine ⟨_, rfl, D, ps.map numV, rfl, .inl (SqL.of hA), rfl, ?_, ?_⟩
      · rw [List.all_map]
        exact List.all_eq_true.mpr fun y _ => numV_flat y
      rcases hsc with ⟨e, hz⟩ | ⟨a, c, ez, ha, e⟩ | ⟨h, _⟩
      · rw [e] at hA ⊢
        by_cases hn : NumX z
        rotate_left
        · have ev : inV .non ([z].map numV) = true := by
            show ([numV z].any fun y => eqV y .non) = true
            rw [List.any_cons, inV_neg hn]
            rfl
          rw [ev]
          refine ⟨true, rfl, iteT (kn (fun t b w => ?_) _ sA)⟩
          exact hn (w.nums (pc_one hz)).1
        obtain ⟨n, n0, n1, en, ev⟩ := numV_pos hn
        have e1 : [z].map numV = [V.int n] := by
          show [numV z] = _
          rw [ev]
        rw [e1] at hA ⊢
        refine ⟨false, rfl, iteF ?_⟩
        refine ⟨_, rfl, D, _, rfl, .inl (SqL.of hA), rfl, _, rfl, ?_⟩
        refine iteT ⟨_, rfl, D, _, _, _, rfl, rfl, SqL.of hA, rfl, (by show 2 ≤ sizeLine; decide), fun q hq => ?_⟩
        refine k n 1 ⟨n0, by decide, n1, by decide, (low_one n).1, (low_one n).2, ?_⟩ q _ (sA.trans (same_upd hq)) upd_same
        rw [en]
        exact (if_pos rfl).symm
      · rw [e] at hA ⊢
        obtain ⟨pc, nb⟩ := pc_two ez ha
        by_cases hn : NumX a
        rotate_left
        · have ev : inV .non ([a, c].map numV) = true := by
            show ([numV a, numV c].any fun y => eqV y .non) = true
            rw [List.any_cons, inV_neg hn]
            rfl
          rw [ev]
          refine ⟨true, rfl, iteT (kn (fun t b w => ?_) _ sA)⟩
          exact hn (w.nums pc).1
        by_cases hm : NumX c
        rotate_left
        · have ev : inV .non ([a, c].map numV) = true := by
            show ([numV a, numV c].any fun y => eqV y .non) = true
            rw [List.any_cons, List.any_cons, inV_neg hm, Bool.true_or, Bool.or_true]
          rw [ev]
          refine ⟨true, rfl, iteT (kn (fun t b w => ?_) _ sA)⟩
          exact hm (w.nums pc).2.1
        obtain ⟨n, n0, n1, en, ev⟩ := numV_pos hn
        obtain ⟨m, m0, m1, em, fv⟩ := numV_pos hm
        have e1 : [a, c].map numV = [V.int n, V.int m] := by
          show [numV a, numV c] = _
          rw [ev, fv]
        rw [e1] at hA ⊢
        rw [en, em] at pc
        refine ⟨false, rfl, iteF ?_⟩
        refine ⟨_, rfl, D, _, rfl, .inl (SqL.of hA), rfl, _, rfl, ?_⟩
        refine iteF ?_
        refine ⟨_, rfl, D, _, _, _, rfl, rfl, SqL.of hA, rfl, _, _, rfl, rfl, _, rfl, ?_⟩
        have same : ∀ t b, IsW z t b → t = n ∧ b = m := fun t b w => by
          obtain ⟨q1, q2⟩ := pc t b w
          exact ⟨(nT_inj n0 w.t0 q1).symm, (nT_inj m0 (Int.le_of_lt w.b0) q2).symm⟩
        by_cases h2 : m < 2
        · rw [decide_eq_true h2]
          refine iteT (kn (fun t b w => ?_) _ sA)
          have := w.b0
          have := nb t b w
          have := (same t b w).2
          omega
        rw [decide_eq_false h2]
        refine iteF ?_
        refine ⟨_, rfl, D, _, _, _, rfl, rfl, SqL.of hA, rfl, _, rfl, D, _, _, _, rfl, rfl, SqL.of hA, rfl, n, m, rfl, n0, m0, rfl, _, rfl, ?_⟩
        by_cases hg : ((Int.gcd n m : Nat) : Int) = 1
        · refine iteNS (by rw [hg]) ?_
          refine ⟨_, rfl, D, _, _, _, rfl, rfl, SqL.of hA, rfl, _, rfl, D, _, _, _, rfl, rfl, SqL.of hA, rfl, (by show 2 ≤ sizeLine; decide), fun q hq => ?_⟩
          refine k n m ⟨n0, by omega, n1, m1, (low_gcd hg).1, (low_gcd hg).2, ?_⟩ q _ (sA.trans (same_upd hq)) upd_same
          rw [ez, en, em]
          unfold wS
          rw [if_neg (by omega)]
        · refine iteNT (fun q => hg (by injection q)) (kn (fun t b w => hg ?_) _ sA)
          obtain ⟨q1, q2⟩ := same t b w
          rw [← q1, ← q2]
          exact gcd_low w.b0 w.l2
      · exact absurd h h3
end
end K
namespace K
open PySem L2 Rp
/-- what the marks ask of the error's class S -/
structure MTx8 (K : PySem.W.Frag) (mg : Str → Option Value) (S : Addr) : Prop where
  e : ExcC K S
  i : mg "isinstance" = none
  c1 : IsC K mg S "NoName" false
  c2 : IsC K mg S "NoGrains" false
  c3 : IsC K mg S "NoDay" false
  c4 : IsC K mg S "NoWeight" false
  c5 : IsC K mg S "NoDeed" false
  c6 : IsC K mg S "NoRow" false
  c7 : IsC K mg S "NoText" true
  c8 : IsC K mg S "Unknown" false
  c9 : IsC K mg S "Unborne" false
  d1 : IsC K mg S "Twice" false
  d2 : IsC K mg S "TooLate" false
  d3 : IsC K mg S "NoSum" false
  d4 : IsC K mg S "Full" false
  d5 : IsC K mg S "NotAlike" false
  k : IsC K mg S "CaskError" true
  w : IsC K mg S "Wrong" true
  v : mg "ValueError" = none
  kv : PySem.W.kitOne K (.ref S) (.type "ValueError") = some true
section
variable {P : Program} {w : World} {K : PySem.W.Frag} {mg : Str → Option Value} {base : Heap}
theorem scMarks : FnScope ["_law_e", "_law_right_here", "_law_others"] ["_law_e", "_law_right_here"] (defScope sMarks) := ⟨rfl, rfl, rfl, by decide +kernel, rfl, by decide +kernel, by decide +kernel⟩
theorem ok_marks {f S : Addr} {fd : FuncData} (F : Fun K "_law_marks_of" "_law_marks_of" sMarks f fd) (T : MTx8 K mg S) : FnE P w K mg base CX0 1 f fd ["_law_e", "_law_right_here"] (spMarks S) := by
  refine Fun_okE F scMarks (fun a cls d vs H Q E h => ?_) (fun cdv A outer s H vs Q E p cls d hz hf hr h => ?_)
  · obtain ⟨b, rfl, _⟩ := h
    rfl
  · obtain ⟨a, oe⟩ := p
    obtain ⟨b, rfl, rfl, hd, k⟩ := h
    obtain ⟨A1, g1, q1⟩ := T.c1
    obtain ⟨A2, g2, q2⟩ := T.c2
    obtain ⟨A3, g3, q3⟩ := T.c3
    obtain ⟨A4, g4, q4⟩ := T.c4
    obtain ⟨A5, g5, q5⟩ := T.c5
    obtain ⟨A6, g6, q6⟩ := T.c6
    obtain ⟨A7, g7, q7⟩ := T.c7
    obtain ⟨A8, g8, q8⟩ := T.c8
    obtain ⟨A9, g9, q9⟩ := T.c9
    obtain ⟨B1, h1, r1⟩ := T.d1
    obtain ⟨B2, h2, r2⟩ := T.d2
    obtain ⟨B3, h3, r3⟩ := T.d3
    obtain ⟨B4, h4, r4⟩ := T.d4
    obtain ⟨B5, h5, r5⟩ := T.d5
    obtain ⟨A10, g10, q10⟩ := T.k
    have ci : ∀ {X : Cx}, X.pn = [(a, oe)] → CallR X (.builtin "isinstance") (rIsX X.K a (.ref S) d) := fun {X} e => call_isX (by rw [e]; exact List.mem_cons_self) hz hf
    have ct : ∀ {X : Cx}, X.pn = [(a, oe)] → CallR X (.builtin "isinstance") (rIsXT X.K a (.ref S) d) := fun {X} e => call_isXT (by rw [e]; exact List.mem_cons_self) hz hf
    refine ⟨_, pss_cons (ps_set (i := 2) scMarks.nd rfl (Or.inl rfl) (pe_lst (pa_cons (pe_callB (ci rfl) (by rfl) T.i (by decide +kernel) (pa_cons (pv 0) (pa_cons (pe_glob (v := .ref A1) rfl g1 rfl) pa_nil)))
          (pa_cons (pe_callB (ci rfl) (by rfl) T.i (by decide +kernel) (pa_cons (pv 0) (pa_cons (pe_glob (v := .ref A2) rfl g2 rfl) pa_nil)))
          (pa_cons (pe_callB (ci rfl) (by rfl) T.i (by decide +kernel) (pa_cons (pv 0) (pa_cons (pe_glob (v := .ref A3) rfl g3 rfl) pa_nil)))
          (pa_cons (pe_callB (ci rfl) (by rfl) T.i (by decide +kernel) (pa_cons (pv 0) (pa_cons (pe_glob (v := .ref A4) rfl g4 rfl) pa_nil))) pa_nil))))))
      (pss_cons (ps_set (i := 2) scMarks.nd rfl (Or.inl rfl) (pe_op op_cat (pv 2) (pe_lst (pa_cons (pe_callB (ci rfl) (by rfl) T.i (by decide +kernel) (pa_cons (pv 0) (pa_cons (pe_glob (v := .ref A5) rfl g5 rfl) pa_nil)))
          (pa_cons (pe_callB (ci rfl) (by rfl) T.i (by decide +kernel) (pa_cons (pv 0) (pa_cons (pe_glob (v := .ref A6) rfl g6 rfl) pa_nil)))
          (pa_cons (pe_callB (ci rfl) (by rfl) T.i (by decide +kernel) (pa_cons (pv 0) (pa_cons (pe_glob (v := .ref A7) rfl g7 rfl) pa_nil)))
          (pa_cons (pe_callB (ci rfl) (by rfl) T.i (by decide +kernel) (pa_cons (pv 0) (pa_cons (pe_glob (v := .ref A8) rfl g8 rfl) pa_nil))) pa_nil)))))))
      (pss_cons (ps_set (i := 2) scMarks.nd rfl (Or.inl rfl) (pe_op op_cat (pv 2) (pe_lst (pa_cons (pe_callB (ci rfl) (by rfl) T.i (by decide +kernel) (pa_cons (pv 0) (pa_cons (pe_glob (v := .ref A9) rfl g9 rfl) pa_nil)))
          (pa_cons (pe_callB (ct rfl) (by rfl) T.i (by decide +kernel) (pa_cons (pv 0) (pa_cons (pe_tup (pa_cons (pe_glob (v := .ref B1) rfl h1 rfl) (pa_cons (pe_glob (v := .ref B2) rfl h2 rfl) (pa_cons (pe_glob (v := .ref B3) rfl h3 rfl) (pa_cons (pe_glob (v := .ref B4) rfl h4 rfl) (pa_cons (pe_glob (v := .ref B5) rfl h5 rfl) pa_nil)))))) pa_nil))) pa_nil)))))
      (pss_one (ps_ret (pe_lst (pa_cons (pv 1) (pa_cons (pe_callB (ci rfl) (by rfl) T.i (by decide +kernel) (pa_cons (pv 0) (pa_cons (pe_glob (v := .ref A10) rfl g10 rfl) pa_nil)))
          (pa_cons (pe_callB (ci rfl) (by rfl) T.i (by decide +kernel) (pa_cons (pv 0) (pa_cons (pe_bltn (v := .ty "ValueError") (by rfl) T.v (by decide +kernel) rfl) pa_nil)))
          (pa_cons (pe_bm PySem.F.plainAttrs_list PySem.F.slot_list_count PySem.F.type_list_count mt_bcount (pv 2) (pa_cons pe_bl pa_nil)) pa_nil))))))))), ?_⟩
    have small : ∀ n, n ≤ 100 → n ≤ sizeLine := fun n h => Nat.le_trans h (by decide)
    refine ⟨_, rfl, S, _, _, _, rfl, rfl, T.e, .own _, hd, q1, _, rfl, S, _, _, _, rfl, rfl, T.e, .own _, hd, q2, _, rfl, S, _, _, _, rfl, rfl, T.e, .own _, hd, q3, _, rfl, S, _, _, _, rfl, rfl, T.e, .own _, hd, q4, (by show 4 ≤ sizeLine; decide), fun l1 hl1 => ?_⟩
    have s1 := same_upd (o := .lst [.bl false, .bl false, .bl false, .bl false]) hl1
    have d1 := HasD.same hd s1
    refine ⟨_, rfl, _, rfl, S, _, _, _, rfl, rfl, T.e, .own _, d1, q5, _, rfl, S, _, _, _, rfl, rfl, T.e, .own _, d1, q6, _, rfl, S, _, _, _, rfl, rfl, T.e, .own _, d1, q7, _, rfl, S, _, _, _, rfl, rfl, T.e, .own _, d1, q8, (by show 4 ≤ sizeLine; decide), fun l2 hl2 => ?_⟩
    have s2 := s1.trans (same_upd (o := .lst [.bl false, .bl false, .bl true, .bl false]) hl2)
    refine ⟨l1, l2, _, _, rfl, rfl, same_upd hl2 _ _ upd_same, upd_same, (by show 8 ≤ sizeLine; decide), fun l3 hl3 => ?_⟩
    have s3 := s2.trans (same_upd (o := .lst ([V.bl false, .bl false, .bl false, .bl false] ++ [V.bl false, .bl false, .bl true, .bl false])) hl3)
    have d3 := HasD.same hd s3
    refine ⟨_, rfl, _, rfl, S, _, _, _, rfl, rfl, T.e, .own _, d3, q9, _, rfl, (by show 5 ≤ sizeLine; decide), fun tp htp => ?_⟩
    have s4 := s3.trans (same_upd (o := .tup [.ref B1, .ref B2, .ref B3, .ref B4, .ref B5]) htp)
    refine ⟨S, tp, _, _, false, rfl, rfl, T.e, upd_same, .cons (.own _) (.cons (.own _) (.cons (.own _) (.cons (.own _) (.cons (.own _) .nil)))), HasD.same hd s4,
      kitAny_cons r1 (fun _ => kitAny_cons r2 (fun _ => kitAny_cons r3 (fun _ => kitAny_cons r4 (fun _ => kitAny_cons r5 (fun _ => kitAny_nil) (fun z => nomatch z)) (fun z => nomatch z)) (fun z => nomatch z)) (fun z => nomatch z)) (fun z => nomatch z),
      (by show 2 ≤ sizeLine; decide), fun l4 hl4 => ?_⟩
    have s5 := s4.trans (same_upd (o := .lst [.bl false, .bl false]) hl4)
    refine ⟨l3, l4, _, _, rfl, rfl, same_upd hl4 _ _ (same_upd htp _ _ upd_same), upd_same, (by show 10 ≤ sizeLine; decide), fun l5 hl5 => ?_⟩
    have s6 := s5.trans (same_upd (o := .lst (([V.bl false, .bl false, .bl false, .bl false] ++ [V.bl false, .bl false, .bl true, .bl false]) ++ [V.bl false, .bl false])) hl5)
    have d6 := HasD.same hd s6
    refine ⟨_, rfl, _, rfl, S, _, _, _, rfl, rfl, T.e, .own _, d6, q10, _, rfl, S, _, _, _, rfl, rfl, T.e, .ty _, d6, T.kv, _, rfl, .inl ⟨rfl, _, SqL.of upd_same⟩, ?_⟩
    refine ⟨l5, [false, false, false, false, false, false, true, false, false, false], true, rfl, rfl, SqL.of upd_same, ?_⟩
    refine ⟨(by show 4 ≤ sizeLine; decide), fun m hm => ?_⟩
    exact k m _ (s6.trans (same_upd hm)) (Fw.same (d := m) s6 m hm) upd_same
end
def WsS (K : PySem.W.Frag) (H : Hp) (v : V) : Prop := ∀ H', Same H H' → Ws K H' v
def spHeard8 (K : PySem.W.Frag) (C : Addr) : Sp := fun vs H Q _ => ∃ v : V, vs = [v] ∧ WsS K H v ∧ TOk v ∧
  (∀ t b, WV v t b → ∀ (r m p : Addr) (H' : Hp), Same H H' → H' r = some (.lst [.ref p, .ref m]) → H' m = some (.lst []) → WAt C H' p t b → Q (.ref r) H') ∧
  ((∀ t b, ¬ WV v t b) → ∀ (r m n : Addr) (H' : Hp), Same H H' → H' r = some (.lst [.non, .ref m]) → H' m = some (.lst [.ref n, .bl true]) → H' n = some (.lst [.bl true, .bl true, .bl true, .int 1]) → Q (.ref r) H')
section
variable {P : Program} {w : World} {K : PySem.W.Frag} {mg : Str → Option Value} {base : Heap}
theorem scHeard : FnScope ["_law_thing", "_law_told", "_law_e"] ["_law_thing"] (defScope sHeard) := ⟨rfl, rfl, rfl, by decide +kernel, rfl, by decide +kernel, by decide +kernel⟩
theorem ok_heard {f C S CE fR fM : Addr} {fd fdR fdM : FuncData} (F : Fun K "_law_heard" "_law_heard" sHeard f fd) (cR : Cl K mg "read_weight" fR fdR ["text"]) (GR : FnOk P w K mg base (L2.CX P w) 5 fR fdR ["text"] (spRead K C S))
    (MT : MTx8 K mg S) (cM : Cl K mg "_law_marks_of" fM fdM ["_law_e", "_law_right_here"]) (GM : FnE P w K mg base CX0 1 fM fdM ["_law_e", "_law_right_here"] (spMarks S))
    (gE : mg "CaskError" = some (.ref CE)) (xE : PySem.W.exmOne K (.ref S) (.ref CE) = some true) : FnOk P w K mg base CX0 6 f fd ["_law_thing"] (spHeard8 K C) := by
  refine F.ok scHeard (fun vs H Q E h => ?_) (fun cdv A outer s H vs Q E hr h => ?_)
  · obtain ⟨v, rfl, _⟩ := h
    rfl
  · obtain ⟨v, rfl, ws, tk, k, kn⟩ := h
    have hrh : L2H.RoomH 1 _ := L2H.roomH_of (hr.mono (by decide))
    obtain ⟨Ab, gb, qb⟩ := MT.c7
    obtain ⟨Aw, gw, qw⟩ := MT.w
    refine ⟨_, pss_cons (ps_set (i := 1) scHeard.nd rfl (Or.inl rfl) (pe_lst (pa_cons pe_non (pa_cons (pe_lst pa_nil) pa_nil))))
      (pss_cons (ps_try_named rfl rfl scHeard.nd
        (fun W pn xe tk _ => pss_one (ps_asg (pe_callS (E := WE W) GR hr (by rfl) cR.g cR.k cR.b (fun σ => passAt tk σ) (pa_cons (pv 0) pa_nil)) (pg_sub (pv 1) pe_int set_list)))
        (.more (i := 2) (c := .ref CE) rfl rfl ⟨rfl, by decide, .inl gE⟩
          (fun a oe cls d pn hz hf => pss_one (ps_asg (pe_lst (pa_cons (pe_callE GM ⟨hrh.dp, hrh.un⟩ List.mem_cons_self hz hf (by rfl) cM.g cM.k cM.b pass0 (pa_cons (pv 2) (pa_cons (pe_callB (call_isS hz hf) (by rfl) MT.i (by decide +kernel) (pa_cons (pv 2) (pa_cons (pe_glob (v := .ref Ab) rfl gb rfl) pa_nil))) pa_nil)))
            (pa_cons (pe_callB (call_isS hz hf) (by rfl) MT.i (by decide +kernel) (pa_cons (pv 2) (pa_cons (pe_glob (v := .ref Aw) rfl gw rfl) pa_nil))) pa_nil))) (pg_sub (pv 1) pe_int set_list)))
        .none))
      (pss_one (ps_ret (pv 1)))), ?_⟩
    refine ⟨Nat.zero_le _, fun m hm => ⟨(by show 2 ≤ sizeLine; decide), fun r hr0 => ?_⟩⟩
    have s1 := (same_upd (o := .lst []) hm).trans (same_upd (o := .lst [.non, .ref m]) hr0)
    have nmr : m ≠ r := fun z => by rw [← z, upd_same] at hr0; cases hr0
    have hm1 : (upd (upd H m (.lst [])) r (.lst [V.non, .ref m])) m = some (.lst []) := by rw [upd_ne nmr]; exact upd_same
    have hr1 : (upd (upd H m (.lst [])) r (.lst [V.non, .ref m])) r = some (.lst [V.non, .ref m]) := upd_same
    have hm0 : H m = none := hm
    have hr00 : H r = none := Fw.same (d := r) (same_upd (o := .lst []) hm) r hr0
    generalize upd (upd H m (.lst [])) r (.lst [V.non, .ref m]) = H1 at *
    refine ⟨_, rfl, v, rfl, ws _ s1, tk, fun t b wv p H2 s2 np hp => ?_, fun nf e H2 s2 he => ?_⟩
    · have hr2 := s2 _ _ hr1
      have hm2 := s2 _ _ hm1
      refine ⟨_, rfl, r, _, _, 0, rfl, rfl, hr2, rfl, ?_⟩
      have npr : p ≠ r := fun z => by rw [z, hr1] at np; cases np
      refine ⟨_, rfl, k t b wv r m p _ (fun q o hq => ?_) upd_same (by rw [upd_ne nmr]; exact hm2) ?_⟩
      · rw [upd_ne (ne_of_none hq hr00)]
        exact s2 _ _ (s1 _ _ hq)
      · obtain ⟨dx, hp⟩ := hp
        exact ⟨dx, by rw [upd_ne npr]; exact hp⟩
    · have hr2 := s2 _ _ hr1
      have hd1 : HasD H2 (some e) := .inr ⟨e, _, rfl, he⟩
      refine ⟨true, xE, fun _ a ha => ?_, fun z => nomatch z⟩
      refine ⟨_, rfl, _, rfl, S, _, _, _, rfl, rfl, MT.e, .own _, hd1, qb, true, rfl, rfl, hd1, fun n H3 e3 nn hn => ?_⟩
      have hd2 := HasD.same hd1 e3
      refine ⟨_, rfl, S, _, _, _, rfl, rfl, MT.e, .own _, hd2, qw, (by show 2 ≤ sizeLine; decide), fun m2 hm2' => ?_⟩
      have hr3 := e3 _ _ hr2
      have n2 : m2 ≠ r := fun z => by rw [z, hr3] at hm2'; cases hm2'
      have nr : n ≠ r := fun z => by rw [z, hr2] at nn; cases nn
      refine ⟨_, rfl, r, _, _, 1, rfl, rfl, same_upd hm2' _ _ hr3, rfl, ?_⟩
      refine ⟨_, rfl, kn nf r m2 n _ (fun q o hq => ?_) upd_same (by rw [upd_ne n2]; exact upd_same) (by rw [upd_ne nr]; exact same_upd hm2' _ _ hn)⟩
      rw [upd_ne (ne_of_none hq hr00)]
      exact same_upd hm2' _ _ (e3 _ _ (s2 _ _ (s1 _ _ hq)))
end
end K
namespace K
open PySem L2 Rp
theorem isw_same {z : Str} {t b t2 b2 : Int} (w : IsW z t b) (w2 : IsW z t2 b2) : t2 = t ∧ b2 = b := by
  obtain ⟨x, y, pc⟩ : ∃ x y, Pc z x y := by
    rcases stroke_cases z with h | ⟨a, c, e, h⟩
    · exact ⟨_, _, pc_one h⟩
    · exact ⟨_, _, (pc_two e h).1⟩
  obtain ⟨e1, e2⟩ := pc t b w
  obtain ⟨f1, f2⟩ := pc t2 b2 w2
  exact ⟨(nT_inj w.t0 w2.t0 (e1.symm.trans f1)).symm, (nT_inj (Int.le_of_lt w.b0) (Int.le_of_lt w2.b0) (e2.symm.trans f2)).symm⟩
def spRight8 (C : Addr) : Sp := fun vs H Q _ => ∃ v : V, vs = [v] ∧ Pr1 C H v ∧ ∀ H', Same H H' → Q (.bl true) H'
section
variable {P : Program} {w : World} {K : PySem.W.Frag} {mg : Str → Option Value} {base : Heap}
theorem scRight : FnScope ["_law_thing", "_law_due", "_law_told", "_law_marks"] ["_law_thing"] (defScope sRight) := ⟨rfl, rfl, rfl, by decide +kernel, rfl, by decide +kernel, by decide +kernel⟩
theorem ok_right {f C fW fR fHe fIs : Addr} {fd dR dHe dIs : FuncData} (F : Fun K "_law_right" "_law_right" sRight f fd) (T : WTxt K mg C fW) (N : WIns K C) (B : Blt mg) (hst : mg "str" = none) (ks : PySem.W.kitOne K (.ref C) (.type "str") = some false)
    (cR : Cl K mg "_law_read" fR dR ["_law_text"]) (GR : FnOk P w K mg base CX0 2 fR dR ["_law_text"] spLRead)
    (cHe : Cl K mg "_law_heard" fHe dHe ["_law_thing"]) (GHe : FnOk P w K mg base CX0 6 fHe dHe ["_law_thing"] (spHeard8 K C))
    (cIs : Cl K mg "_law_is" fIs dIs ["_law_found", "_law_top", "_law_bottom"]) (GIs : FnOk P w K mg base CX0 3 fIs dIs ["_law_found", "_law_top", "_law_bottom"] (spIs C)) : FnOk P w K mg base CX0 7 f fd ["_law_thing"] (spRight8 C) := by
  refine F.ok scRight (fun vs H Q E h => ?_) (fun cdv A outer s H vs Q E hr h => ?_)
  · obtain ⟨v, rfl, _⟩ := h
    rfl
  · obtain ⟨v, rfl, ⟨as, ab, th⟩, k⟩ := h
    have ws : WsS K H v := fun H' e => (th.congr fun b _ o h => e b o h).ws T.cl N ks
    have tk := th.tok
    refine ⟨_, (pss_cons (ps_set (i := 1) scRight.nd rfl (Or.inl rfl) pe_non)
    (pss_cons (ps_if (pt_val (pe_callB call_isi (by rfl) B.isi (by decide +kernel) (pa_cons (pv 0) (pa_cons (pe_bltn (v := .ty "str") (by rfl) hst (by decide +kernel) rfl) pa_nil)))) (pss_one (ps_set (i := 1) scRight.nd rfl (Or.inl rfl) (pe_call GR (hr.mono (by decide)) (by rfl) cR.g cR.k cR.b .nil pass0 (pa_cons (pv 0) pa_nil)))) pss_nil)
    (pss_cons (ps_asg (pe_call GHe (hr.mono (by decide)) (by rfl) cHe.g cHe.k cHe.b .nil pass0 (pa_cons (pv 0) pa_nil)) (pg_unl rfl (pgs_cons (pg_name (i := 2) scRight.nd rfl (Or.inl rfl)) (pgs_cons (pg_name (i := 3) scRight.nd rfl (Or.inl rfl)) pgs_nil))))
    (pss_cons (ps_if (pt_cmp (pc_isN (pv 1))) (pss_one (ps_ret (pe_and (pe_cmpR (op_eqD hr.units) (pv 3) (pe_lst (pa_cons (pe_lst (pa_cons pe_bl (pa_cons pe_bl (pa_cons pe_bl (pa_cons pe_int pa_nil))))) (pa_cons pe_bl pa_nil))) (nomark _)) (pe_one (pe_cmp (pc_isN (pv 2))))))) pss_nil)
    (pss_one (ps_ret (pe_and (pe_cmpR (op_eqD hr.units) (pv 3) (pe_lst pa_nil) (nomark _)) (pe_one (pe_call GIs (hr.mono (by decide)) (by rfl) cIs.g cIs.k cIs.b .nil pass0 (pa_cons (pv 2) (pa_cons (pe_ix ix_tup (pv 1) pe_int (fun _ _ => rfl)) (pa_cons (pe_ix ix_tup (pv 1) pe_int (fun _ _ => rfl)) pa_nil)))))))))))), ?_⟩
    obtain ⟨tv, ty, kst⟩ := ws H (Same.refl H)
    -- nothing due: the refusal's marks
    have none_due : ∀ (H1 : Hp), Same H H1 → ∀ (r m n : Addr) (H2 : Hp), Same H1 H2 → H2 r = some (.lst [.non, .ref m]) → H2 m = some (.lst [.ref n, .bl true]) → H2 n = some (.lst [.bl true, .bl true, .bl true, .int 1]) →
        ∀ l1, H2 l1 = none → ∀ l2, (upd H2 l1 (.lst [.bl true, .bl true, .bl true, .int 1])) l2 = none →
          ∃ d e, Dp K (upd (upd H2 l1 (.lst [.bl true, .bl true, .bl true, .int 1])) l2 (.lst [.ref l1, .bl true])) (.ref m) d ∧ Dp K (upd (upd H2 l1 (.lst [.bl true, .bl true, .bl true, .int 1])) l2 (.lst [.ref l1, .bl true])) (.ref l2) e ∧ SeqAt.shaped d = true ∧ SeqAt.shaped e = true ∧ PyData.eqv d e = true := fun H1 s1 r m n H2 s2 hr2 hm hn l1 h1 l2 h2 => by
      have sa := same_upd (o := .lst [.bl true, .bl true, .bl true, .int 1]) h1
      have sb := same_upd (o := .lst [.ref l1, .bl true]) h2
      have sc := sa.trans sb
      exact ⟨.list [.list [.bool true, .bool true, .bool true, .int 1], .bool true], .list [.list [.bool true, .bool true, .bool true, .int 1], .bool true],
        .lst (SqL.of (sc _ _ hm)) (.cons (.lst (SqL.of (sc _ _ hn)) (.cons (.bl _) (.cons (.bl _) (.cons (.bl _) (.cons (.int _) .nil))))) (.cons (.bl _) .nil)),
        .lst (SqL.of upd_same) (.cons (.lst (SqL.of (sb _ _ upd_same)) (.cons (.bl _) (.cons (.bl _) (.cons (.bl _) (.cons (.int _) .nil))))) (.cons (.bl _) .nil)), by decide +kernel, by decide +kernel, by decide +kernel⟩
    refine ⟨_, rfl, _, .ty "str", _, _, isS v, rfl, .ty _, ty, kst, isS v, rfl, ?_⟩
    by_cases hs : isS v = true
    · obtain ⟨z, rfl⟩ : ∃ z, v = .str z := by cases v <;> first | exact ⟨_, rfl⟩ | cases hs
      obtain ⟨az, lz⟩ := tk z rfl
      refine iteT ⟨_, rfl, z, rfl, az, lz, fun t b w p H1 s1 hp => ?_, fun nw H1 s1 => ?_⟩
      · refine ⟨_, rfl, _, rfl, fun H' e => ws _ (s1.trans e), tk, fun t2 b2 w2 r m x H2 s2 hr2 hm hx => ?_, fun nf => absurd ⟨z, rfl, w⟩ (nf t b)⟩
        refine ⟨r, _, rfl, SqL.of hr2, rfl, _, _, rfl, _, _, rfl, rfl, ?_⟩
        refine ⟨_, rfl, _, rfl, ?_⟩
        rw [decide_eq_false (show ¬ V.ref p = V.non from fun q => by cases q)]
        refine iteF ⟨_, rfl, Nat.zero_le _, fun l1 h1 => ?_⟩
        have s3 := same_upd (o := .lst []) h1
        refine ⟨.list [], .list [], .lst (SqL.of (s3 _ _ hm)) .nil, .lst (SqL.of upd_same) .nil, rfl, rfl, ?_⟩
        refine ⟨true, rfl, iteT ?_⟩
        obtain ⟨z2, e2, w2⟩ := w2
        cases e2
        obtain ⟨rfl, rfl⟩ := isw_same w w2
        have hp3 := s3 _ _ (s2 _ _ hp)
        refine ⟨_, rfl, _, rfl, p, _, _, _, rfl, rfl, SqT.of hp3, rfl, _, rfl, p, _, _, _, rfl, rfl, SqT.of hp3, rfl, x, _, _, rfl, w.t0, w.b0, ?_, ?_, fun H4 e4 => k _ (((s1.trans s2).trans s3).trans e4)⟩
        · have := w.b1
          have := w.b0
          exact Sz.mono (a := 100) (by unfold Sz; omega) (by decide)
        · rw [w.l1, w.l2]
          exact hx.same s3
      · refine ⟨_, rfl, _, rfl, fun H' e => ws _ (s1.trans e), tk, fun t2 b2 w2 => ?_, fun nf r m n H2 s2 hr2 hm hn => ?_⟩
        · obtain ⟨z2, e2, w2⟩ := w2
          cases e2
          exact absurd w2 (nw t2 b2)
        refine ⟨r, _, rfl, SqL.of hr2, rfl, _, _, rfl, _, _, rfl, rfl, ?_⟩
        refine ⟨_, rfl, _, rfl, ?_⟩
        rw [decide_eq_true rfl]
        refine iteT ⟨_, rfl, (by show 4 ≤ sizeLine; decide), fun l1 h1 => ⟨(by show 2 ≤ sizeLine; decide), fun l2 h2 => ?_⟩⟩
        obtain ⟨d, e, q1, q2, q3, q4, q5⟩ := none_due H1 s1 r m n H2 s2 hr2 hm hn l1 h1 l2 h2
        refine ⟨d, e, q1, q2, q3, q4, ?_⟩
        rw [q5]
        refine ⟨true, rfl, iteT ⟨_, rfl, ?_⟩⟩
        show Q (.bl (decide (V.non = V.non))) _
        rw [decide_eq_true rfl]
        exact k _ ((s1.trans s2).trans ((same_upd h1).trans (same_upd h2)))
    · have hs' : isS v = false := by simpa using hs
      rw [hs']
      refine iteF ?_
      have nf : ∀ t b, ¬ WV v t b := fun t b ⟨z, e, _⟩ => by rw [e] at hs; exact hs rfl
      refine ⟨_, rfl, _, rfl, fun H' e => ws _ e, tk, fun t2 b2 w2 => absurd w2 (nf t2 b2), fun _ r m n H2 s2 hr2 hm hn => ?_⟩
      refine ⟨r, _, rfl, SqL.of hr2, rfl, _, _, rfl, _, _, rfl, rfl, ?_⟩
      refine ⟨_, rfl, _, rfl, ?_⟩
      rw [decide_eq_true rfl]
      refine iteT ⟨_, rfl, (by show 4 ≤ sizeLine; decide), fun l1 h1 => ⟨(by show 2 ≤ sizeLine; decide), fun l2 h2 => ?_⟩⟩
      obtain ⟨d, e, q1, q2, q3, q4, q5⟩ := none_due H (Same.refl H) r m n H2 s2 hr2 hm hn l1 h1 l2 h2
      refine ⟨d, e, q1, q2, q3, q4, ?_⟩
      rw [q5]
      refine ⟨true, rfl, iteT ⟨_, rfl, ?_⟩⟩
      show Q (.bl (decide (V.non = V.non))) _
      rw [decide_eq_true rfl]
      exact k _ (((Same.refl H).trans s2).trans ((same_upd h1).trans (same_upd h2)))
end
end K
namespace K
open PySem L2 Rp
def spWritten : Sp := fun vs H Q _ => ∃ t b : Int, vs = [.int t, .int b] ∧ Wn 1500 t b ∧ ∀ H', Same H H' → Q (.str (wS (lowT t b) (lowB t b))) H'
def TxV (v : V) : Prop := ∃ z, v = .str z ∧ Asc z ∧ z.length ≤ 10000
def strsOk (vs : List V) : Bool := vs.all fun v => match v with
  | .str z => z.cps.toList.all (fun c => decide (c < 128)) && decide (z.length ≤ 10000)
  | _ => false
theorem strs_ok {vs : List V} (h : strsOk vs = true) : ∀ v ∈ vs, TxV v := fun v hv => by
  have h1 := List.all_eq_true.mp h v hv
  cases v with
  | str z =>
    have h2 := (Bool.and_eq_true _ _).mp h1
    exact ⟨z, rfl, asc_lit z h2.1, of_decide_eq_true h2.2⟩
  | _ => cases h1
theorem mul_lenI {x : Str} {n : Int} {k m : Nat} (hn : n = k) (hm : x.length = m) : (Txt.mul x n).length ≤ k * m := by
  subst hn hm
  exact mul_len x k
theorem upd_over {H : Hp} {a b : Addr} {o q o' : HO} (h : b ≠ a) : upd (upd (upd H a o) b q) a o' = upd (upd H b q) a o' := by
  funext x
  by_cases e : x = a
  · rw [e, upd_same, upd_same]
  · rw [upd_ne e, upd_ne e]
    by_cases f : x = b
    · rw [f, upd_same, upd_same]
    · rw [upd_ne f, upd_ne f, upd_ne e]
theorem asc_nT {n : Int} (h : 0 ≤ n) : Asc (nT n) := fun c hc => by
  have := (tens_of (nT_mem h hc)).2
  omega
theorem asc_wS {t b : Int} (h : 0 ≤ t) (hb : 0 ≤ b) : Asc (wS t b) := by
  unfold wS
  split
  · exact asc_nT h
  · exact asc_app (asc_app (asc_nT h) (asc_lit _ (by decide +kernel))) (asc_nT hb)
theorem few_wS {t b : Int} (h : 0 ≤ t) (hb : 0 ≤ b) (t1 : t ≤ 1000000000000) (b1 : b ≤ 1000000000000) : (wS t b).length ≤ 27 := by
  have e13 : (10 : Int) ^ 13 = 10000000000000 := by decide
  have h1 : (nT t).length ≤ 13 := (nT_long h).mpr ⟨by rw [e13]; omega, by decide⟩
  have h2 : (nT b).length ≤ 13 := (nT_long hb).mpr ⟨by rw [e13]; omega, by decide⟩
  have e3 : ("/" : Str).length = 1 := by decide +kernel
  unfold wS
  split
  · omega
  · simp only [append_len, e3]
    omega
def spFixed (C : Addr) : Sp := fun vs H Q _ => vs = [] ∧ ∀ (l : Addr) (xs : List V) (H' : Hp), Same H H' → H' l = some (.lst xs) → (∀ v ∈ xs, Pr1 C H' v) → Q (.ref l) H'
section
variable {P : Program} {w : World} {K : PySem.W.Frag} {mg : Str → Option Value} {base : Heap}
theorem scWritten : FnScope ["_law_top", "_law_bottom"] ["_law_top", "_law_bottom"] (defScope sWritten) := ⟨rfl, rfl, rfl, by decide +kernel, rfl, by decide +kernel, by decide +kernel⟩
theorem ok_written {f fL : Addr} {fd fdL : FuncData} (F : Fun K "_law_written" "_law_written" sWritten f fd) (hst : mg "str" = none) (cL : Cl K mg "_law_lowest" fL fdL ["_law_top", "_law_bottom"]) (GL : FnOk P w K mg base CX0 2 fL fdL ["_law_top", "_law_bottom"] spLow) :
    FnOk P w K mg base CX0 3 f fd ["_law_top", "_law_bottom"] spWritten := by
  refine F.ok scWritten (fun vs H Q E h => ?_) (fun cdv A outer s H vs Q E hr h => ?_)
  · obtain ⟨t, b, rfl, _⟩ := h
    rfl
  · obtain ⟨t, b, rfl, n1, k⟩ := h
    refine ⟨_, pss_cons (ps_asg (pe_call GL hr (by rfl) cL.g cL.k cL.b .nil pass0 (pa_cons (pv 0) (pa_cons (pv 1) pa_nil))) (pg_tup rfl (pgs_cons (pg_name (i := 0) scWritten.nd rfl (Or.inl rfl)) (pgs_cons (pg_name (i := 1) scWritten.nd rfl (Or.inl rfl)) pgs_nil))))
      (pss_cons (ps_if (pt_cmpR op_eq (pv 1) pe_int (nomark _)) (pss_one (ps_ret (pe_callTy call_str_int (by rfl) hst (by decide +kernel) (pa_cons (pv 0) pa_nil)))) pss_nil)
      (pss_one (ps_ret (pe_op op_add_str (pe_op op_add_str (pe_callTy call_str_int (by rfl) hst (by decide +kernel) (pa_cons (pv 0) pa_nil)) pe_str) (pe_callTy call_str_int (by rfl) hst (by decide +kernel) (pa_cons (pv 1) pa_nil)))))), ?_⟩
    have n2 := n1.low
    have big : ∀ n, n ≤ 10000 → n ≤ sizeLine := fun n h => Nat.le_trans h (by decide)
    have e3 : ("/" : Str).length = 1 := by decide +kernel
    have h1 : (nT (lowT t b)).length ≤ 1601 := nT_len (n2.tz.mono (by decide))
    have h2 : (nT (lowB t b)).length ≤ 1601 := nT_len (n2.bz.mono (by decide))
    have z1 : (lowT t b).natAbs.log2 < 1920 := Nat.lt_trans (n2.tz.log (by decide)) (by decide)
    have z2 : (lowB t b).natAbs.log2 < 1920 := Nat.lt_trans (n2.bz.log (by decide)) (by decide)
    refine ⟨_, rfl, _, rfl, t, b, rfl, n1.t0, n1.b0, n1.bz.mono (by decide), fun p hp => ⟨p, _, rfl, SqT.of upd_same, rfl, _, _, rfl, _, _, rfl, rfl, ?_⟩⟩
    have s1 := same_upd (o := .tup [.int (lowT t b), .int (lowB t b)]) hp
    refine ⟨_, rfl, rfl, _, rfl, ite2 (fun h => ?_) (fun h => ?_)⟩
    · have hb : lowB t b = 1 := by injection of_decide_eq_true h
      refine ⟨_, rfl, _, rfl, z1, ?_⟩
      have q := k _ s1
      unfold wS at q
      rw [if_pos hb] at q
      exact q
    · have hb : ¬ lowB t b = 1 := fun z => h (decide_eq_true (by rw [z]))
      refine ⟨_, rfl, _, rfl, z1, nT (lowT t b), "/", rfl, rfl, big _ (by rw [e3]; omega), _, rfl, _, rfl, z2, nT (lowT t b) ++ "/", nT (lowB t b), rfl, rfl, big _ (by rw [append_len, e3]; omega), ?_⟩
      have q := k _ s1
      unfold wS at q
      rw [if_neg hb] at q
      exact q
theorem scFixed : FnScope ["_law_some"] [] (defScope sFixed) := ⟨rfl, rfl, rfl, by decide +kernel, rfl, by decide +kernel, by decide +kernel⟩
theorem ok_fixed {f C fI : Addr} {fd dI : FuncData} (F : Fun K "_law_fixed" "_law_fixed" sFixed f fd) {fW : Addr} (T : WTxt K mg C fW)
    (M : Mk K C fI) (GI : FnOk P w K mg base CX0 2 fI dI ["self", "top", "bottom"] (spInit C)) (bI : Binds K dI ["self", "top", "bottom"] []) {ds : List Value} (vd : Vals [V.int 1] ds) (bI1 : Binds K dI ["self", "top", "bottom"] ds) : FnOk P w K mg base CX0 4 f fd [] (spFixed C) := by
  refine F.ok scFixed (fun vs H Q E h => ?_) (fun cdv A outer s H vs Q E hr h => ?_)
  · obtain ⟨rfl, _⟩ := h
    rfl
  · obtain ⟨rfl, k⟩ := h
    refine ⟨_, (pss_cons (ps_set (i := 0) scFixed.nd rfl (Or.inl rfl) (pe_lst (pa_cons pe_str (pa_cons pe_str (pa_cons pe_str (pa_cons pe_str (pa_cons pe_str (pa_cons pe_str (pa_cons pe_str (pa_cons pe_str (pa_cons pe_str (pa_cons pe_str (pa_cons pe_str (pa_cons pe_str (pa_cons pe_str (pa_cons pe_str (pa_cons pe_str (pa_cons pe_str pa_nil))))))))))))))))))
    (pss_cons (ps_set (i := 0) scFixed.nd rfl (Or.inl rfl) (pe_op op_cat (pv 0) (pe_lst (pa_cons pe_str (pa_cons pe_str (pa_cons pe_str (pa_cons pe_str (pa_cons pe_str (pa_cons pe_str (pa_cons pe_str (pa_cons pe_str (pa_cons pe_str (pa_cons pe_str (pa_cons pe_str (pa_cons pe_str pa_nil)))))))))))))))
    (pss_cons (ps_set (i := 0) scFixed.nd rfl (Or.inl rfl) (pe_op op_cat (pv 0) (pe_lst (pa_cons (pe_op op_mulS pe_str pe_int) (pa_cons (pe_op op_mulS pe_str pe_int) (pa_cons (pe_op op_mulS pe_str pe_int) (pa_cons (pe_op op_add_str pe_str (pe_op op_mulS pe_str pe_int)) pa_nil)))))))
    (pss_cons (ps_set (i := 0) scFixed.nd rfl (Or.inl rfl) (pe_op op_cat (pv 0) (pe_lst (pa_cons (pe_op op_add_str pe_str (pe_op op_mulS pe_str pe_int)) (pa_cons (pe_op op_add_str pe_str (pe_op op_mulS pe_str pe_int)) (pa_cons (pe_op op_add_str (pe_op op_mulS pe_str pe_int) pe_str) (pa_cons (pe_op op_add_str pe_str (pe_op op_mulS pe_str pe_int)) (pa_cons (pe_op op_add_str pe_str (pe_op op_mulS pe_str pe_int)) pa_nil))))))))
    (pss_one (ps_ret (pe_op op_cat (pv 0) (pe_lst (pa_cons pe_non (pa_cons pe_bl (pa_cons pe_int (pa_cons (pe_tup pa_nil) (pa_cons (pe_tup (pa_cons pe_str pa_nil)) (pa_cons (pe_lst (pa_cons pe_str pa_nil)) (pa_cons pe_dnewK (pa_cons (pe_make M GI (hr.mono (by decide)) (by rfl) T.mgC bI .nil pass0 (pa_cons pe_int (pa_cons pe_int pa_nil))) (pa_cons (pe_tup (pa_cons (pe_make M GI (hr.mono (by decide)) (by rfl) T.mgC bI1 vd pass0 (pa_cons pe_int pa_nil)) pa_nil)) (pa_cons (pe_lst (pa_cons pe_int (pa_cons (pe_lst pa_nil) (pa_cons (pe_disp (pps_cons pe_int (pe_tup pa_nil) pps_nil) (by rfl) (by rfl) (fun z => by cases z) (by decide)) pa_nil)))) pa_nil)))))))))))))))))), ?_⟩
    have up : ∀ {H p o}, H p = none → Same H (upd H p o) := fun h => same_upd h
    have m1 : ∀ n : Int, ∀ k : Nat, n = k → (Txt.mul "9" n).length ≤ k * 1 := fun n k e => mul_lenI e (by decide +kernel)
    have m0 : ∀ n : Int, ∀ k : Nat, n = k → (Txt.mul "0" n).length ≤ k * 1 := fun n k e => mul_lenI e (by decide +kernel)
    have a12 := m1 12 12 rfl
    have a13 := m1 13 13 rfl
    have a50 := m1 5000 5000 rfl
    have z12 := m0 12 12 rfl
    have A9 : Asc ("9" : Str) := asc_lit _ (by decide +kernel)
    have A0 : Asc ("0" : Str) := asc_lit _ (by decide +kernel)
    have n1 : ("1/" : Str).length = 2 := by decide +kernel
    have n2 : ("/7" : Str).length = 2 := by decide +kernel
    have n3 : ("1" : Str).length = 1 := by decide +kernel
    have n4 : ("1/1" : Str).length = 3 := by decide +kernel
    have sl : (20000 : Nat) ≤ sizeLine := by decide
    refine ⟨(by show 16 ≤ sizeLine; decide), fun p1 h1 => ?_⟩
    have t1 : ∀ v ∈ [V.str "", V.str "/", V.str "1/", V.str "/2", V.str "1/2/3", V.str "1//2", V.str "00", V.str "01", V.str "0/1", V.str "0/2", V.str "1/1", V.str "2/4", V.str "3/0", V.str "-1", V.str "+1", V.str "1/-2"], TxV v := strs_ok (by decide +kernel)
    have c1 : [V.str "", V.str "/", V.str "1/", V.str "/2", V.str "1/2/3", V.str "1//2", V.str "00", V.str "01", V.str "0/1", V.str "0/2", V.str "1/1", V.str "2/4", V.str "3/0", V.str "-1", V.str "+1", V.str "1/-2"].length = 16 := rfl
    generalize [V.str "", V.str "/", V.str "1/", V.str "/2", V.str "1/2/3", V.str "1//2", V.str "00", V.str "01", V.str "0/1", V.str "0/2", V.str "1/1", V.str "2/4", V.str "3/0", V.str "-1", V.str "+1", V.str "1/-2"] = xs1 at *
    have s1 := up (o := .lst xs1) h1
    have g1 : (upd H p1 (.lst xs1)) p1 = some (.lst xs1) := upd_same
    generalize upd H p1 (.lst xs1) = H1 at *
    refine ⟨_, rfl, (by show 12 ≤ sizeLine; decide), fun p2 h2 => ?_⟩
    have t2 : ∀ v ∈ [V.str "1.5", V.str "7/2", V.str "7/02", V.str "7 /2", V.str "7/ 2", V.str " 7/2", V.str "7/2 ", V.str "7/2\n", V.str "1_0", V.str "1e3", V.str "x", V.str "Weight(1)"], TxV v := strs_ok (by decide +kernel)
    have c2 : [V.str "1.5", V.str "7/2", V.str "7/02", V.str "7 /2", V.str "7/ 2", V.str " 7/2", V.str "7/2 ", V.str "7/2\n", V.str "1_0", V.str "1e3", V.str "x", V.str "Weight(1)"].length = 12 := rfl
    generalize [V.str "1.5", V.str "7/2", V.str "7/02", V.str "7 /2", V.str "7/ 2", V.str " 7/2", V.str "7/2 ", V.str "7/2\n", V.str "1_0", V.str "1e3", V.str "x", V.str "Weight(1)"] = xs2 at *
    refine ⟨p1, p2, _, _, rfl, rfl, up h2 _ _ g1, upd_same, Nat.le_trans (show _ ≤ 28 by omega) (by decide), fun p3 h3 => ?_⟩
    have t3 : ∀ v ∈ xs1 ++ xs2, TxV v := fun v hv => (List.mem_append.mp hv).elim (t1 v) (t2 v)
    have c3 : (xs1 ++ xs2).length = 28 := by rw [List.length_append, c1, c2]
    have s3 := (s1.trans (up (o := .lst xs2) h2)).trans (up (o := .lst (xs1 ++ xs2)) h3)
    have g3 : (upd (upd H1 p2 (.lst xs2)) p3 (.lst (xs1 ++ xs2))) p3 = some (.lst (xs1 ++ xs2)) := upd_same
    generalize upd (upd H1 p2 (.lst xs2)) p3 (.lst (xs1 ++ xs2)) = H3 at *
    generalize xs1 ++ xs2 = xs3 at *
    clear t1 t2 c1 c2 h1 h2 h3 g1 s1
    refine ⟨_, rfl, _, _, rfl, rfl, by unfold MulOk; decide +kernel, _, _, rfl, rfl, by unfold MulOk; decide +kernel, _, _, rfl, rfl, by unfold MulOk; decide +kernel, _, _, rfl, rfl, by unfold MulOk; decide +kernel, _, _, rfl, rfl, by omega, (by show 4 ≤ sizeLine; decide), fun p4 h4 => ?_⟩
    have t4 : ∀ v ∈ [V.str (Txt.mul "9" 12), V.str (Txt.mul "9" 13), V.str (Txt.mul "9" 5000), V.str ("1/" ++ Txt.mul "9" 5000)], TxV v := al ⟨_, rfl, mul_asc A9, by omega⟩ (al ⟨_, rfl, mul_asc A9, by omega⟩ (al ⟨_, rfl, mul_asc A9, by omega⟩ (al ⟨_, rfl, asc_app (asc_lit _ (by decide +kernel)) (mul_asc A9), by rw [append_len]; omega⟩ al0)))
    have c4 : [V.str (Txt.mul "9" 12), V.str (Txt.mul "9" 13), V.str (Txt.mul "9" 5000), V.str ("1/" ++ Txt.mul "9" 5000)].length = 4 := rfl
    generalize [V.str (Txt.mul "9" 12), V.str (Txt.mul "9" 13), V.str (Txt.mul "9" 5000), V.str ("1/" ++ Txt.mul "9" 5000)] = xs4 at *
    refine ⟨p3, p4, _, _, rfl, rfl, up h4 _ _ g3, upd_same, Nat.le_trans (show _ ≤ 32 by omega) (by decide), fun p5 h5 => ?_⟩
    have t5 : ∀ v ∈ xs3 ++ xs4, TxV v := fun v hv => (List.mem_append.mp hv).elim (t3 v) (t4 v)
    have c5 : (xs3 ++ xs4).length = 32 := by rw [List.length_append, c3, c4]
    have s5 := (s3.trans (up (o := .lst xs4) h4)).trans (up (o := .lst (xs3 ++ xs4)) h5)
    have g5 : (upd (upd H3 p4 (.lst xs4)) p5 (.lst (xs3 ++ xs4))) p5 = some (.lst (xs3 ++ xs4)) := upd_same
    generalize upd (upd H3 p4 (.lst xs4)) p5 (.lst (xs3 ++ xs4)) = H5 at *
    generalize xs3 ++ xs4 = xs5 at *
    clear t3 t4 c3 c4 h4 h5 g3 s3
    refine ⟨_, rfl, _, _, rfl, rfl, by unfold MulOk; decide +kernel, _, _, rfl, rfl, by omega, _, _, rfl, rfl, by unfold MulOk; decide +kernel, _, _, rfl, rfl, by omega, _, _, rfl, rfl, by unfold MulOk; decide +kernel, _, _, rfl, rfl, by omega, _, _, rfl, rfl, by unfold MulOk; decide +kernel, _, _, rfl, rfl, by omega, _, _, rfl, rfl, by unfold MulOk; decide +kernel, _, _, rfl, rfl, by omega, (by show 5 ≤ sizeLine; decide), fun p6 h6 => ?_⟩
    have t6 : ∀ v ∈ [V.str ("1/" ++ Txt.mul "9" 12), V.str ("1/" ++ Txt.mul "9" 13), V.str (Txt.mul "9" 12 ++ "/7"), V.str ("1" ++ Txt.mul "0" 12), V.str ("1/1" ++ Txt.mul "0" 12)], TxV v := al ⟨_, rfl, asc_app (asc_lit _ (by decide +kernel)) (mul_asc A9), by rw [append_len]; omega⟩ (al ⟨_, rfl, asc_app (asc_lit _ (by decide +kernel)) (mul_asc A9), by rw [append_len]; omega⟩ (al ⟨_, rfl, asc_app (mul_asc A9) (asc_lit _ (by decide +kernel)), by rw [append_len]; omega⟩ (al ⟨_, rfl, asc_app (asc_lit _ (by decide +kernel)) (mul_asc A0), by rw [append_len]; omega⟩ (al ⟨_, rfl, asc_app (asc_lit _ (by decide +kernel)) (mul_asc A0), by rw [append_len]; omega⟩ al0))))
    have c6 : [V.str ("1/" ++ Txt.mul "9" 12), V.str ("1/" ++ Txt.mul "9" 13), V.str (Txt.mul "9" 12 ++ "/7"), V.str ("1" ++ Txt.mul "0" 12), V.str ("1/1" ++ Txt.mul "0" 12)].length = 5 := rfl
    generalize [V.str ("1/" ++ Txt.mul "9" 12), V.str ("1/" ++ Txt.mul "9" 13), V.str (Txt.mul "9" 12 ++ "/7"), V.str ("1" ++ Txt.mul "0" 12), V.str ("1/1" ++ Txt.mul "0" 12)] = xs6 at *
    refine ⟨p5, p6, _, _, rfl, rfl, up h6 _ _ g5, upd_same, Nat.le_trans (show _ ≤ 37 by omega) (by decide), fun p7 h7 => ?_⟩
    have t7 : ∀ v ∈ xs5 ++ xs6, TxV v := fun v hv => (List.mem_append.mp hv).elim (t5 v) (t6 v)
    have c7 : (xs5 ++ xs6).length = 37 := by rw [List.length_append, c5, c6]
    have s7 := (s5.trans (up (o := .lst xs6) h6)).trans (up (o := .lst (xs5 ++ xs6)) h7)
    have g7 : (upd (upd H5 p6 (.lst xs6)) p7 (.lst (xs5 ++ xs6))) p7 = some (.lst (xs5 ++ xs6)) := upd_same
    generalize upd (upd H5 p6 (.lst xs6)) p7 (.lst (xs5 ++ xs6)) = H7 at *
    generalize xs5 ++ xs6 = xs7 at *
    clear t5 t6 c5 c6 h6 h7 g5 s5
    -- the things of other kinds
    have nd : ∀ {H' : Hp} {q : Addr}, Same H7 H' → H' q = none → q ≠ p7 := fun e hp => Ne.symm (ne_of_none (e _ _ g7) hp)
    have z0 : Sz 1600 0 := by unfold Sz; decide
    have z1 : Sz 1600 1 := by unfold Sz; decide
    have z2 : Sz 1600 2 := by unfold Sz; decide
    have z7 : Sz 1600 7 := by unfold Sz; decide
    have os : ∀ {H : Hp}, Od C p7 0 1601 H (.str "7/2") := od_str (asc_lit _ (by decide +kernel)) (by decide +kernel) (by decide +kernel) (by decide +kernel)
    refine ⟨_, rfl, (by show 0 ≤ sizeLine; decide), fun p8 h8 => ⟨(by show 1 ≤ sizeLine; decide), fun p9 h9 => ⟨(by show 1 ≤ sizeLine; decide), fun p10 h10 p11 h11 x1 dx1 nx1 ndx1 ne1 => ?_⟩⟩⟩
    have S0 := Same.refl H7
    have S8 := S0.trans (up (o := .tup []) h8)
    have S9 := S8.trans (up (o := .tup [.str "7/2"]) h9)
    have S10 := S9.trans (up (o := .lst [.str "7/2"]) h10)
    have S11 := S10.trans (up (o := .dK []) h11)
    have o8 := od_tup (C := C) (N := 0) (M := 1601) (N' := 20) (M' := 300000) h8 (nd S0 h8) al0 (by decide) (by show 0 * (1601 + 2) + 3 ≤ 300000; decide)
    have o9 := od_tup (C := C) (N := 0) (M := 1601) (N' := 20) (M' := 300000) h9 (nd S8 h9) (al os al0) (by decide) (by show 1 * (1601 + 2) + 3 ≤ 300000; decide)
    have o10 := od_lst (C := C) (N := 0) (M := 1601) (N' := 20) (M' := 300000) h10 (nd S9 h10) (al os al0) (by decide) (by show 1 * (1601 + 2) + 3 ≤ 300000; decide)
    have o11 := od_dic (C := C) (kvs := []) (N := 0) (M := 1601) (N' := 20) (M' := 300000) h11 (nd S10 h11) (fun _ z => nomatch z) (by decide) (by decide) (by show 0 * (2 * 1601 + 4) + 3 ≤ 300000; decide)
    have o8 := ((o8.same (up (o := .tup [.str "7/2"]) h9)).same (up (o := .lst [.str "7/2"]) h10)).same (up (o := .dK []) h11)
    have o9 := (o9.same (up (o := .lst [.str "7/2"]) h10)).same (up (o := .dK []) h11)
    have o10 := o10.same (up (o := .dK []) h11)
    generalize upd (upd (upd (upd H7 p8 (.tup [])) p9 (.tup [.str "7/2"])) p10 (.lst [.str "7/2"])) p11 (.dK []) = HB at *
    clear h8 h9 h10 h11 S8 S9 S10 S0
    have s1 := same_make (C := C) (fs := wf (7 / ((Int.gcd 7 2 : Nat) : Int)) (2 / ((Int.gcd 7 2 : Nat) : Int))) nx1 ndx1
    have w1 : WAt C (upd (upd (upd HB dx1 (.own x1)) x1 (.ins C dx1 [])) x1 (.ins C dx1 (wf (7 / ((Int.gcd 7 2 : Nat) : Int)) (2 / ((Int.gcd 7 2 : Nat) : Int))))) x1 (lowT 7 2) (lowB 7 2) := ⟨dx1, upd_same⟩
    refine ⟨x1, dx1, 7, 2, rfl, upd_same, by decide, by decide, by unfold Sz; decide, rfl, fun x2 dx2 nx2 ndx2 ne2 => ?_⟩
    have q1 := nd S11 nx1
    have SC := S11.trans s1
    generalize upd (upd (upd HB dx1 (.own x1)) x1 (.ins C dx1 [])) x1 (.ins C dx1 (wf (7 / ((Int.gcd 7 2 : Nat) : Int)) (2 / ((Int.gcd 7 2 : Nat) : Int)))) = HC at *
    have s2 := same_make (C := C) (fs := wf (1 / ((Int.gcd 1 1 : Nat) : Int)) (1 / ((Int.gcd 1 1 : Nat) : Int))) nx2 ndx2
    have w2 : WAt C (upd (upd (upd HC dx2 (.own x2)) x2 (.ins C dx2 [])) x2 (.ins C dx2 (wf (1 / ((Int.gcd 1 1 : Nat) : Int)) (1 / ((Int.gcd 1 1 : Nat) : Int))))) x2 (lowT 1 1) (lowB 1 1) := ⟨dx2, upd_same⟩
    refine ⟨x2, dx2, 1, 1, rfl, upd_same, by decide, by decide, by unfold Sz; decide, rfl, (by show 1 ≤ sizeLine; decide), fun p12 h12 => ⟨(by show 0 ≤ sizeLine; decide), fun p13 h13 p14 h14 => ⟨(by show 0 ≤ sizeLine; decide), fun p15 h15 => ⟨up h15 _ _ upd_same, [(.inl 0, .ref p15)], rfl, (by show 1 ≤ 15; decide), (by show 3 ≤ sizeLine; decide), fun p16 h16 => ⟨(by show 10 ≤ sizeLine; decide), fun p17 h17 => ?_⟩⟩⟩⟩⟩
    have q2 := nd SC nx2
    have SD := SC.trans s2
    generalize upd (upd (upd HC dx2 (.own x2)) x2 (.ins C dx2 [])) x2 (.ins C dx2 (wf (1 / ((Int.gcd 1 1 : Nat) : Int)) (1 / ((Int.gcd 1 1 : Nat) : Int)))) = HD at *
    have n54 : p15 ≠ p14 := fun z => by rw [z, upd_same] at h15; cases h15
    have em : mergeK [] [((.inl 0 : Key), V.ref p15)] = [(.inl 0, .ref p15)] := rfl
    rw [upd_over n54, em] at h16 h17 ⊢
    rw [upd_ne n54] at h15
    have sm : ∀ {t b : Int}, 0 ≤ t → 0 < b → Sz 1600 t → Sz 1600 b → Wn 1600 (lowT t b) (lowB t b) := fun a b c d => Wn.low ⟨a, b, c, d⟩
    have v1 := sm (t := 7) (b := 2) (by decide) (by decide) z7 z2
    have v2 := sm (t := 1) (b := 1) (by decide) (by decide) z1 z1
    have oW := od_wt (N := 20) (M := 300000) (d := p7) w1 v1 q1 (by decide) (by decide)
    have S12 := SD.trans (up (o := .tup [.ref x2]) h12)
    have S13 := S12.trans (up (o := .lst []) h13)
    have S15 := S13.trans (up (o := .tup []) h15)
    have h14' : (upd (upd (upd HD p12 (.tup [.ref x2])) p13 (.lst [])) p15 (.tup [])) p14 = none := by rw [upd_ne (Ne.symm n54)]; exact h14
    have S14 := S15.trans (up (o := .dK [(.inl 0, .ref p15)]) h14')
    have S16 := S14.trans (up (o := .lst [.int 0, .ref p13, .ref p14]) h16)
    have o12 := od_tup (C := C) (N := 3) (M := 4000) (N' := 20) (M' := 300000) h12 (nd SD h12) (al (od_wt w2 v2 q2 (by decide) (by decide)) al0) (by decide) (by show 1 * (4000 + 2) + 3 ≤ 300000; decide)
    have o13 := od_lst (C := C) (N := 0) (M := 1601) (N' := 5) (M' := 5000) h13 (nd S12 h13) al0 (by decide) (by show 0 * (1601 + 2) + 3 ≤ 5000; decide)
    have o15 := od_tup (C := C) (N := 0) (M := 1601) (N' := 2) (M' := 1601) h15 (nd S13 h15) al0 (by decide) (by show 0 * (1601 + 2) + 3 ≤ 1601; decide)
    have o14 := od_dic (C := C) (kvs := [(.inl 0, .ref p15)]) (N := 2) (M := 1601) (N' := 5) (M' := 5000) h14' (nd S15 h14') (fun kv hk => by
      cases List.mem_singleton.mp hk
      exact ⟨o15, 0, rfl, z0⟩) (by decide) (by decide) (by show 1 * (2 * 1601 + 4) + 3 ≤ 5000; decide)
    have u13 := (up (o := .tup []) h15).trans (up (o := .dK [(.inl 0, .ref p15)]) h14')
    have o16 := od_lst (C := C) (N := 5) (M := 5000) (N' := 20) (M' := 300000) h16 (nd S14 h16) (al (od_int z0 (by decide)) (al (o13.same u13) (al o14 al0))) (by decide) (by show 3 * (5000 + 2) + 3 ≤ 300000; decide)
    have uE := (((up (o := .tup [.ref x2]) h12).trans (up (o := .lst []) h13)).trans u13).trans (up (o := .lst [.int 0, .ref p13, .ref p14]) h16)
    have oo12 := (o12.same (up (o := .lst []) h13)).same (u13.trans (up (o := .lst [.int 0, .ref p13, .ref p14]) h16))
    have sBE := (s1.trans s2).trans uE
    have e8 := o8.same sBE
    have e9 := o9.same sBE
    have e10 := o10.same sBE
    have e11 := o11.same sBE
    have eW := oW.same (s2.trans uE)
    generalize upd (upd (upd (upd (upd HD p12 (.tup [.ref x2])) p13 (.lst [])) p15 (.tup [])) p14 (.dK [(.inl 0, .ref p15)])) p16 (.lst [.int 0, .ref p13, .ref p14]) = HE at *
    have els : ∀ v ∈ [V.non, V.bl true, V.int 5, V.ref p8, V.ref p9, V.ref p10, V.ref p11, V.ref x1, V.ref p12, V.ref p16], Od C p7 20 300000 HE v :=
      al (p := fun v => Od C p7 20 300000 HE v) (od_non (by decide)) (al (od_bl (by decide)) (al (od_int (by unfold Sz; decide) (by decide)) (al e8 (al e9 (al e10 (al e11 (al eW (al oo12 (al o16 al0)))))))))
    have ln : [V.non, V.bl true, V.int 5, V.ref p8, V.ref p9, V.ref p10, V.ref p11, V.ref x1, V.ref p12, V.ref p16].length = 10 := rfl
    generalize [V.non, V.bl true, V.int 5, V.ref p8, V.ref p9, V.ref p10, V.ref p11, V.ref x1, V.ref p12, V.ref p16] = ys at *
    refine ⟨p7, p17, _, _, rfl, rfl, up h17 _ _ (S16 _ _ g7), upd_same, Nat.le_trans (show _ ≤ 47 by omega) (by decide), fun p18 h18 => ?_⟩
    have uF := (up (o := .lst ys) h17).trans (up (o := .lst (xs7 ++ ys)) h18)
    refine k p18 _ _ ((s7.trans S16).trans uF) upd_same fun v hv => ?_
    rcases List.mem_append.mp hv with hv | hv
    · obtain ⟨z, rfl, az, lz⟩ := t7 v hv
      exact pr1_of (od_text (d := p7) az lz)
    · exact pr1_of ((els v hv).same uF)
end
end K
namespace K
open PySem L2 Rp
section
variable {P : Program} {w : World} {K : PySem.W.Frag} {mg : Str → Option Value} {base : Heap}
theorem scLaw : FnScope ["_law_script", "_law_thing", "_law_cell", "_law_deck_here", "_law_top", "_law_bottom", "_law_text", "_law_k", "_law_twice", "_law_bent"] ["_law_script"] (defScope sLaw) := ⟨rfl, rfl, rfl, by decide +kernel, rfl, by decide +kernel, by decide +kernel⟩
theorem ok_law {f C fF fRi fDk fT fW fD fB fO : Addr} {fd dF dRi dDk dT dW dD dB dO : FuncData} (F : Fun K "law" "law" sLaw f fd) (hrg : mg "range" = none)
    (cF : Cl K mg "_law_fixed" fF dF []) (GF : FnOk P w K mg base CX0 4 fF dF [] (spFixed C))
    (cRi : Cl K mg "_law_right" fRi dRi ["_law_thing"]) (GRi : FnOk P w K mg base CX0 7 fRi dRi ["_law_thing"] (spRight8 C))
    (cDk : Cl K mg "_law_deck" fDk dDk ["_law_cell"]) (GDk : FnOk P w K mg base CX0 1 fDk dDk ["_law_cell"] spDeck)
    (cT : Cl K mg "_law_two" fT dT ["_law_deck_here"]) (GT : FnOk P w K mg base CX0 2 fT dT ["_law_deck_here"] spTwo)
    (cW : Cl K mg "_law_written" fW dW ["_law_top", "_law_bottom"]) (GW : FnOk P w K mg base CX0 3 fW dW ["_law_top", "_law_bottom"] spWritten)
    (cD : Cl K mg "_law_draw" fD dD ["_law_deck_here", "_law_most"]) (GD : FnOk P w K mg base CX0 1 fD dD ["_law_deck_here", "_law_most"] spDraw)
    (cB : Cl K mg "_law_text_otherwise" fB dB ["_law_deck_here", "_law_text"]) (GB : FnOk P w K mg base CX0 3 fB dB ["_law_deck_here", "_law_text"] spBent)
    (cO : Cl K mg "_law_odd" fO dO ["_law_deck_here"]) (GO : FnOk P w K mg base CX0 4 fO dO ["_law_deck_here"] (spOdd C)) : FnG P w K mg base CX0 8 f fd ["_law_script"] (spLaw K) := by
  refine Fun_okG0 F scLaw (fun vs H Q E h => ?_) (fun cdv A outer s H vs Q E gd hr h => ?_)
  · obtain ⟨a, ns, rfl, _⟩ := h
    rfl
  · obtain ⟨a, ns, rfl, hS, hlen, k⟩ := h
    refine ⟨_, (pss_cons (ps_for PassesOwn.never rfl (pi_list (pe_call0 GF (hr.mono (by decide)) (by rfl) cF.g cF.k cF.b .nil pass0)) (pg_name (i := 1) scLaw.nd rfl (Or.inl rfl))
      (pss_one (ps_if (pt_not (pt_val (pe_call GRi (hr.mono (by decide)) (by rfl) cRi.g cRi.k cRi.b .nil pass0 (pa_cons (pv 1) pa_nil)))) (pss_one (ps_ret pe_bl)) pss_nil)))
    (pss_cons (ps_for PassesOwn.never rfl (pi_list (pe_op op_cat (pe_slice sl_list (pv 0) po_none (po_some pe_int)) (pe_lst (pa_cons pe_int pa_nil)))) (pg_name (i := 2) scLaw.nd rfl (Or.inl rfl))
      (pss_cons (ps_set (i := 3) scLaw.nd rfl (Or.inl rfl) (pe_call GDk (hr.mono (by decide)) (by rfl) cDk.g cDk.k cDk.b .nil pass0 (pa_cons (pv 2) pa_nil)))
    (pss_cons (ps_asg (pe_call GT (hr.mono (by decide)) (by rfl) cT.g cT.k cT.b .nil pass0 (pa_cons (pv 3) pa_nil)) (pg_tup rfl (pgs_cons (pg_name (i := 4) scLaw.nd rfl (Or.inl rfl)) (pgs_cons (pg_name (i := 5) scLaw.nd rfl (Or.inl rfl)) pgs_nil))))
    (pss_cons (ps_set (i := 6) scLaw.nd rfl (Or.inl rfl) (pe_call GW (hr.mono (by decide)) (by rfl) cW.g cW.k cW.b .nil pass0 (pa_cons (pv 4) (pa_cons (pv 5) pa_nil))))
    (pss_cons (ps_for PassesOwn.never rfl (pi_range1 (by rfl) hrg (pa_cons pe_int pa_nil)) (pg_name (i := 7) scLaw.nd rfl (Or.inl rfl))
      (pss_cons (ps_set (i := 8) scLaw.nd rfl (Or.inl rfl) (pe_cmpR op_eq (pe_call GD (hr.mono (by decide)) (by rfl) cD.g cD.k cD.b .nil pass0 (pa_cons (pv 3) (pa_cons pe_int pa_nil))) pe_int (nomark _)))
    (pss_cons (ps_set (i := 9) scLaw.nd rfl (Or.inl rfl) (pe_call GB (hr.mono (by decide)) (by rfl) cB.g cB.k cB.b .nil pass0 (pa_cons (pv 3) (pa_cons (pv 6) pa_nil))))
    (pss_cons (ps_if (pt_val (pv 8)) (pss_one (ps_set (i := 9) scLaw.nd rfl (Or.inl rfl) (pe_call GB (hr.mono (by decide)) (by rfl) cB.g cB.k cB.b .nil pass0 (pa_cons (pv 3) (pa_cons (pv 9) pa_nil))))) pss_nil)
    (pss_one (ps_if (PW.pt (pw_or (pt_not (pt_val (pe_call GRi (hr.mono (by decide)) (by rfl) cRi.g cRi.k cRi.b .nil pass0 (pa_cons (pv 9) pa_nil)))) (pw_or1 (pt_not (pt_val (pe_call GRi (hr.mono (by decide)) (by rfl) cRi.g cRi.k cRi.b .nil pass0 (pa_cons (pe_call GO (hr.mono (by decide)) (by rfl) cO.g cO.k cO.b .nil pass0 (pa_cons (pv 3) pa_nil)) pa_nil))))))) (pss_one (ps_ret pe_bl)) pss_nil))))))
    (pss_one (ps_if (pt_not (pt_val (pe_call GRi (hr.mono (by decide)) (by rfl) cRi.g cRi.k cRi.b .nil pass0 (pa_cons (pv 6) pa_nil)))) (pss_one (ps_ret pe_bl)) pss_nil)))))))
    (pss_one (ps_ret pe_bl)))), ?_⟩
    refine ⟨rfl, fun l xs HF sF hF oF => ?_⟩
    refine ⟨l, rfl, ⟨_, SqL.of hF⟩, for_list (K := K) (a := l) (xs := xs) (fun i σ H' => Same HF H' ∧ ∃ v1, σ = [some (.ref a), v1, none, none, none, none, none, none, none, none])
      ⟨Same.refl HF, none, rfl⟩ (fun i σ H' _ ⟨e, _⟩ => e.seq (SqL.of hF)) ?_ ?_⟩
    · rintro i x σ H' hx ⟨e0, v1, rfl⟩
      exact ⟨_, rfl, x, rfl, (oF x (List.mem_of_getElem? hx)).same e0, fun H2 e2 => ⟨true, rfl, iteF ⟨e0.trans e2, _, rfl⟩⟩⟩
    rintro σ HG ⟨eG, v1, rfl⟩
    have hS := (sF.trans eG).seq hS
    clear hF oF sF eG
    refine ⟨_, rfl, 10, rfl, a, _, rfl, hS, fun p1 h1 => ⟨(by show 1 ≤ sizeLine; decide), fun p2 h2 => ?_⟩⟩
    have n12 : p1 ≠ p2 := fun z => by rw [← z, upd_same] at h2; cases h2
    have hcut : (cutV (ns.map V.int) none (some 10)).length ≤ 63 := by
      have := cutV_length (ns.map V.int) none (some 10)
      rw [List.length_map] at this
      omega
    refine ⟨p1, p2, _, _, rfl, rfl, by rw [upd_ne n12]; exact upd_same, upd_same, ?_, fun p3 h3 => ?_⟩
    · have e : ([V.int 3] : List V).length = 1 := rfl
      rw [e]
      exact Nat.le_trans (Nat.add_le_add_right hcut 1) (by decide)
    have allz : ∀ (i : Nat) (x : V), (cutV (ns.map V.int) none (some 10) ++ [V.int 3])[i]? = some x → ∃ z, x = .int z := fun i x hx => by
      have hm := List.mem_of_getElem? hx
      rcases List.mem_append.mp hm with z | z
      · have z2 : x ∈ ns.map V.int := List.mem_of_mem_drop (List.mem_of_mem_take z)
        obtain ⟨n, _, e⟩ := List.mem_map.mp z2
        exact ⟨n, e.symm⟩
      · exact ⟨3, List.mem_singleton.mp z⟩
    generalize hH0 : upd (upd (upd HG p1 (.lst (cutV (ns.map V.int) none (some 10)))) p2 (.lst [V.int 3])) p3 (.lst (cutV (ns.map V.int) none (some 10) ++ [V.int 3])) = H0
    generalize hcs : cutV (ns.map V.int) none (some 10) ++ [V.int 3] = cs at *
    have hL0 : H0 p3 = some (.lst cs) := by rw [← hH0]; exact upd_same
    refine ⟨p3, rfl, ⟨_, SqL.of hL0⟩, for_list (K := K) (a := p3) (xs := cs) (fun i σ H' => Same H0 H' ∧ ∃ v1 v2 v3 v4 v5 v6 v7 v8 v9, σ = [some (.ref a), v1, v2, v3, v4, v5, v6, v7, v8, v9])
      ⟨Same.refl H0, _, _, _, _, _, _, _, _, _, rfl⟩ (fun i σ H' _ ⟨e, _⟩ => e.seq (SqL.of hL0)) ?_ ?_⟩
    · rintro i x σ H' hx ⟨e0, v1, v2, v3, v4, v5, v6, v7, v8, v9, rfl⟩
      obtain ⟨z, rfl⟩ := allz i x hx
      refine ⟨_, rfl, z, rfl, fun d hd H1 d1 q1 => ?_⟩
      have e1 : Same H' H1 := fun y o hy => (q1 y (ne_of_none hy hd)).trans hy
      have frame : ∀ {H2 : Hp}, Fw d H1 H2 → Same H' H2 := fun f y o hy => f.kp y o (ne_of_none hy hd) (e1 _ _ hy)
      refine ⟨_, rfl, d, rfl, d1, fun p t b H2 t0 t1 b0 b1 np hp d2 f2 => ?_⟩
      refine ⟨p, _, rfl, SqT.of hp, rfl, _, _, rfl, _, _, rfl, rfl, ?_⟩
      have wn : Wn 1500 t b := Wn.mono (m := 100) ⟨t0, b0, by unfold Sz; omega, by unfold Sz; omega⟩ (by decide)
      refine ⟨_, rfl, _, rfl, t, b, rfl, wn, fun H3 e3 => ?_⟩
      obtain ⟨l0, l1⟩ := low_pos t0 b0
      obtain ⟨m0, m1⟩ := low_le t0 b0
      have az := asc_wS l0 (Int.le_of_lt l1)
      have lz := few_wS l0 (Int.le_of_lt l1) (by omega) (by omega)
      generalize wS (lowT t b) (lowB t b) = tx at *
      have d3 := d2.same e3
      have f3 := f2.trans (Fw.of_same e3)
      refine ⟨12, rfl, by decide, by decide, for_range (lo := 0) (n := 12) (fun j σ H4 => ∃ u1 u4 u5 u7 u8 u9, σ = [some (.ref a), u1, some (.int z), some (.ref d), u4, u5, some (.str tx), u7, u8, u9] ∧ DeckAt H4 d ∧ Fw d H1 H4) ?_ ?_ ?_⟩
      · exact ⟨_, _, _, _, _, _, rfl, d3, f3⟩
      · rintro j σ H4 hj ⟨u1, u4, u5, u7, u8, u9, rfl, d4, f4⟩
        refine ⟨_, rfl, d, 2, rfl, by decide, by decide, d4, fun q q0 q1 H5 d5 e5 => ⟨rfl, ?_⟩⟩
        have f5 := f4.trans (Fw.draw d5 e5)
        refine ⟨_, rfl, _, rfl, d, tx, rfl, d5, az, by omega, fun y H6 ay ly d6 f6 => ?_⟩
        have f6 := f5.trans f6
        refine ⟨_, rfl, _, rfl, ite2 (fun _ => ?_) (fun _ => ?_)⟩
        · refine ⟨_, rfl, _, rfl, d, y, rfl, d6, ay, by omega, fun y2 H7 ay2 ly2 d7 f7 => ?_⟩
          have f7 := f6.trans f7
          refine ⟨_, rfl, _, rfl, pr1_of (od_text (d := d) ay2 (by omega)), fun H8 e8 => ⟨true, rfl, iteF ?_⟩⟩
          refine ⟨_, rfl, d, rfl, d7.same e8, fun v H9 ov d9 f9 => ⟨v, rfl, pr1_of ov, fun H10 e10 => ⟨true, rfl, iteF ?_⟩⟩⟩
          exact ⟨_, _, _, _, _, _, rfl, d9.same e10, ((f7.trans (Fw.of_same e8)).trans f9).trans (Fw.of_same e10)⟩
        · refine ⟨_, rfl, _, rfl, pr1_of (od_text (d := d) ay (by omega)), fun H8 e8 => ⟨true, rfl, iteF ?_⟩⟩
          refine ⟨_, rfl, d, rfl, d6.same e8, fun v H9 ov d9 f9 => ⟨v, rfl, pr1_of ov, fun H10 e10 => ⟨true, rfl, iteF ?_⟩⟩⟩
          exact ⟨_, _, _, _, _, _, rfl, d9.same e10, ((f6.trans (Fw.of_same e8)).trans f9).trans (Fw.of_same e10)⟩
      · rintro σ H4 ⟨u1, u4, u5, u7, u8, u9, rfl, d4, f4⟩
        refine ⟨_, rfl, _, rfl, pr1_of (od_text (d := d) az (by omega)), fun H5 e5 => ⟨true, rfl, iteF ?_⟩⟩
        exact ⟨e0.trans (frame (f4.trans (Fw.of_same e5))), _, _, _, _, _, _, _, _, _, rfl⟩
    · rintro σ H' ⟨e0, v1, v2, v3, v4, v5, v6, v7, v8, v9, rfl⟩
      exact k H'
end
end K
namespace K
open PySem L2 Rp
theorem bindsI {K : PySem.W.Frag} {f : Addr} {fd : FuncData} (F : FunI K f fd) : Binds K fd ["self", "top", "bottom"] [] := by
  obtain ⟨ds, v, b⟩ := F.binds1 (ps := ["self", "top", "bottom"]) 3 1 (by simp) rfl fun T kV dc pm an cd ct us its hu hi => match us, its, hu, hi with | [_, _, _], [_], _, _ => ⟨_, rfl, rfl⟩
  cases v
  exact b
theorem bindsI1 {K : PySem.W.Frag} {f : Addr} {fd : FuncData} (F : FunI K f fd) : ∃ ds, Vals [V.int 1] ds ∧ Binds K fd ["self", "top", "bottom"] ds := by
  obtain ⟨ds, v, b⟩ := F.binds1 (ps := ["self", "top", "bottom"]) 2 0 (by simp) rfl fun T kV dc pm an cd ct us its hu hi => match us, its, hu, hi with | [_, _], [_], _, _ => ⟨_, rfl, rfl⟩
  exact ⟨ds, v, b⟩
theorem bindsX {K : PySem.W.Frag} {f : Addr} {fd : FuncData} (F : FunX K f fd) : Binds K fd ["self", "row"] [] := by
  obtain ⟨ds, v, b⟩ := F.binds1 (ps := ["self", "row"]) 2 1 (by simp) rfl fun T kV dc pm an cd ct us its hu hi => match us, its, hu, hi with | [_, _], [_], _, _ => ⟨_, rfl, rfl⟩
  cases v
  exact b
theorem all_mk {l : PySem.W.OpenLaw} {w : World} {K : PySem.W.Frag} {h : Heap} {mg : Str → Option Value} {fa C fInit fStr fMade fNumeral fShow fWhole fNumber fRead fDeck fDraw fLWhole fDiv fNumIn fSign fTwo fLow fIs fWritten fOdd fBent fMarks fLRead fHeard fRight fFixed fLaw S fTxI Xc1 Xc2 Xc3 Xc4 Xc5 Xc6 Xc8 Xc9 Xd1 Xd2 Xd3 Xd4 Xd5 Xk Xw : Addr} (X : K.In h) (G : h.Ns mainGlobals mg) (hfa : mg "law" = some (.ref fa))
    {odInit anInit : Option Addr} {slInit : Array (Option Value)} {ocInit kVInit dcInit pmInit cdInit ctInit : Value}
    {ocDInit : Value} {odDInit : Option Addr} {nDInit : Nat} {slDInit : Array (Option Value)} {tkDInit : Tok} {DInit : Addr}
    {odStr anStr : Option Addr} {slStr : Array (Option Value)} {ocStr kVStr dcStr pmStr cdStr ctStr : Value}
    {odMade anMade : Option Addr} {slMade : Array (Option Value)} {ocMade kVMade dcMade pmMade cdMade ctMade : Value}
    {odNumeral anNumeral : Option Addr} {slNumeral : Array (Option Value)} {ocNumeral kVNumeral dcNumeral pmNumeral cdNumeral ctNumeral : Value}
    {odShow anShow : Option Addr} {slShow : Array (Option Value)} {ocShow kVShow dcShow pmShow cdShow ctShow : Value}
    {odWhole anWhole : Option Addr} {slWhole : Array (Option Value)} {ocWhole kVWhole dcWhole pmWhole cdWhole ctWhole : Value}
    {odNumber anNumber : Option Addr} {slNumber : Array (Option Value)} {ocNumber kVNumber dcNumber pmNumber cdNumber ctNumber : Value}
    {odRead anRead : Option Addr} {slRead : Array (Option Value)} {ocRead kVRead dcRead pmRead cdRead ctRead : Value}
    {odDeck anDeck : Option Addr} {slDeck : Array (Option Value)} {ocDeck kVDeck dcDeck pmDeck cdDeck ctDeck : Value}
    {odDraw anDraw : Option Addr} {slDraw : Array (Option Value)} {ocDraw kVDraw dcDraw pmDraw cdDraw ctDraw : Value}
    {odLWhole anLWhole : Option Addr} {slLWhole : Array (Option Value)} {ocLWhole kVLWhole dcLWhole pmLWhole cdLWhole ctLWhole : Value}
    {odDiv anDiv : Option Addr} {slDiv : Array (Option Value)} {ocDiv kVDiv dcDiv pmDiv cdDiv ctDiv : Value}
    {odNumIn anNumIn : Option Addr} {slNumIn : Array (Option Value)} {ocNumIn kVNumIn dcNumIn pmNumIn cdNumIn ctNumIn : Value}
    {odSign anSign : Option Addr} {slSign : Array (Option Value)} {ocSign kVSign dcSign pmSign cdSign ctSign : Value}
    {odTwo anTwo : Option Addr} {slTwo : Array (Option Value)} {ocTwo kVTwo dcTwo pmTwo cdTwo ctTwo : Value}
    {odLow anLow : Option Addr} {slLow : Array (Option Value)} {ocLow kVLow dcLow pmLow cdLow ctLow : Value}
    {odIs anIs : Option Addr} {slIs : Array (Option Value)} {ocIs kVIs dcIs pmIs cdIs ctIs : Value}
    {odWritten anWritten : Option Addr} {slWritten : Array (Option Value)} {ocWritten kVWritten dcWritten pmWritten cdWritten ctWritten : Value}
    {odOdd anOdd : Option Addr} {slOdd : Array (Option Value)} {ocOdd kVOdd dcOdd pmOdd cdOdd ctOdd : Value}
    {odBent anBent : Option Addr} {slBent : Array (Option Value)} {ocBent kVBent dcBent pmBent cdBent ctBent : Value}
    {odMarks anMarks : Option Addr} {slMarks : Array (Option Value)} {ocMarks kVMarks dcMarks pmMarks cdMarks ctMarks : Value}
    {odLRead anLRead : Option Addr} {slLRead : Array (Option Value)} {ocLRead kVLRead dcLRead pmLRead cdLRead ctLRead : Value}
    {odHeard anHeard : Option Addr} {slHeard : Array (Option Value)} {ocHeard kVHeard dcHeard pmHeard cdHeard ctHeard : Value}
    {odRight anRight : Option Addr} {slRight : Array (Option Value)} {ocRight kVRight dcRight pmRight cdRight ctRight : Value}
    {odFixed anFixed : Option Addr} {slFixed : Array (Option Value)} {ocFixed kVFixed dcFixed pmFixed cdFixed ctFixed : Value}
    {odLaw anLaw : Option Addr} {slLaw : Array (Option Value)} {ocLaw kVLaw dcLaw pmLaw cdLaw ctLaw : Value}
    {zBLK : Int} {tBLK : Tok}
    {zTN : Str} {tTN : Tok}
    {zMF : Int} {tMF : Tok}
    {nmS qS : Str} {NS : Addr} {bsS bmS : List Value} {snS : List Str} {sbS : List Value} {abS : Bool} {coS : Option Bool} {ddS : Option Addr} {e0S e1S e2S e3S e5S : Option Value}
    {odTxI anTxI : Option Addr} {slTxI : Array (Option Value)} {ocTxI kVTxI dcTxI pmTxI cdTxI ctTxI : Value} {ocDTxI : Value} {odDTxI : Option Addr} {nDTxI : Nat} {slDTxI : Array (Option Value)} {tkDTxI : Tok} {DTxI : Addr}
    (aC : PySem.W.nsIn K mainGlobals "Weight" = some (some (.ref C)))
    (pgC : PySem.W.plainGet K C Str.empty = true)
    (hdC : PySem.W.hasDictIn K C = true)
    (poC : PySem.W.plainOver K C = true)
    (saC : PySem.W.findIn K (.ref C) "__setattr__" = some (some (.builtin "object.__setattr__")))
    (mkC : PySem.W.makesIn K C = true)
    (kcC : PySem.W.keepIn K (.ref C) = true)
    (nC_top : PySem.W.findIn K (.ref C) "top" = some none)
    (nC_bottom : PySem.W.findIn K (.ref C) "bottom" = some none)
    (waC : PySem.W.findIn K (.ref C) "__class__" = some (some (.builtin "object.__class__")))
    (wmC : PySem.W.mroIn K C (.type "object") = some true)
    (wneC : PySem.W.findIn K (.ref C) "__ne__" = some (some (.builtin "object.__ne__")))
    (wn : PySem.W.specialIn K (.builtin "object.__class__") "__get__" = some (some (.builtin "getset_descriptor.__get__")))
    (wt : PySem.W.takesIn K (.builtin "object.__class__") = some true)
    (aInit : PySem.W.findIn K (.ref C) "__init__" = some (some (.ref fInit)))
    (iInit : PySem.W.isFn K (.ref fInit) = true)
    (lInit : K.lookup fInit = some ⟨ocInit, odInit, .func (PySem.W.fnOf "__init__" "Weight.__init__" (defArgs sInit) (defBody sInit) (defScope sInit) (.ref DInit) kVInit dcInit pmInit anInit cdInit ctInit), slInit⟩)
    (cInit : PySem.W.codeIn K cdInit "Weight.__init__" = true)
    (kInit : PySem.W.keepIn K (.ref fInit) = true)
    (lDInit : K.lookup DInit = some ⟨ocDInit, odDInit, .seq ([Value.int 1 tkDInit] : List Value).toArray nDInit, slDInit⟩)
    (aStr : PySem.W.findIn K (.ref C) "__str__" = some (some (.ref fStr)))
    (iStr : PySem.W.isFn K (.ref fStr) = true)
    (lStr : K.lookup fStr = some ⟨ocStr, odStr, .func (PySem.W.fnOf "__str__" "Weight.__str__" (defArgs sStr) (defBody sStr) (defScope sStr) .none kVStr dcStr pmStr anStr cdStr ctStr), slStr⟩)
    (cStr : PySem.W.codeIn K cdStr "Weight.__str__" = true)
    (kStr : PySem.W.keepIn K (.ref fStr) = true)
    (aMade : PySem.W.nsIn K mainGlobals "made_of" = some (some (.ref fMade)))
    (lMade : K.lookup fMade = some ⟨ocMade, odMade, .func (PySem.W.fnOf "made_of" "made_of" (defArgs sMade) (defBody sMade) (defScope sMade) .none kVMade dcMade pmMade anMade cdMade ctMade), slMade⟩)
    (cMade : PySem.W.codeIn K cdMade "made_of" = true)
    (kMade : PySem.W.keepIn K (.ref fMade) = true)
    (aNumeral : PySem.W.nsIn K mainGlobals "is_numeral" = some (some (.ref fNumeral)))
    (lNumeral : K.lookup fNumeral = some ⟨ocNumeral, odNumeral, .func (PySem.W.fnOf "is_numeral" "is_numeral" (defArgs sNumeral) (defBody sNumeral) (defScope sNumeral) .none kVNumeral dcNumeral pmNumeral anNumeral cdNumeral ctNumeral), slNumeral⟩)
    (cNumeral : PySem.W.codeIn K cdNumeral "is_numeral" = true)
    (kNumeral : PySem.W.keepIn K (.ref fNumeral) = true)
    (aShow : PySem.W.nsIn K mainGlobals "show_whole" = some (some (.ref fShow)))
    (lShow : K.lookup fShow = some ⟨ocShow, odShow, .func (PySem.W.fnOf "show_whole" "show_whole" (defArgs sShow) (defBody sShow) (defScope sShow) .none kVShow dcShow pmShow anShow cdShow ctShow), slShow⟩)
    (cShow : PySem.W.codeIn K cdShow "show_whole" = true)
    (kShow : PySem.W.keepIn K (.ref fShow) = true)
    (aWhole : PySem.W.nsIn K mainGlobals "is_whole" = some (some (.ref fWhole)))
    (lWhole : K.lookup fWhole = some ⟨ocWhole, odWhole, .func (PySem.W.fnOf "is_whole" "is_whole" (defArgs sWhole) (defBody sWhole) (defScope sWhole) .none kVWhole dcWhole pmWhole anWhole cdWhole ctWhole), slWhole⟩)
    (cWhole : PySem.W.codeIn K cdWhole "is_whole" = true)
    (kWhole : PySem.W.keepIn K (.ref fWhole) = true)
    (aNumber : PySem.W.nsIn K mainGlobals "is_number" = some (some (.ref fNumber)))
    (lNumber : K.lookup fNumber = some ⟨ocNumber, odNumber, .func (PySem.W.fnOf "is_number" "is_number" (defArgs sNumber) (defBody sNumber) (defScope sNumber) .none kVNumber dcNumber pmNumber anNumber cdNumber ctNumber), slNumber⟩)
    (cNumber : PySem.W.codeIn K cdNumber "is_number" = true)
    (kNumber : PySem.W.keepIn K (.ref fNumber) = true)
    (aRead : PySem.W.nsIn K mainGlobals "read_weight" = some (some (.ref fRead)))
    (lRead : K.lookup fRead = some ⟨ocRead, odRead, .func (PySem.W.fnOf "read_weight" "read_weight" (defArgs sRead) (defBody sRead) (defScope sRead) .none kVRead dcRead pmRead anRead cdRead ctRead), slRead⟩)
    (cRead : PySem.W.codeIn K cdRead "read_weight" = true)
    (kRead : PySem.W.keepIn K (.ref fRead) = true)
    (aDeck : PySem.W.nsIn K mainGlobals "_law_deck" = some (some (.ref fDeck)))
    (lDeck : K.lookup fDeck = some ⟨ocDeck, odDeck, .func (PySem.W.fnOf "_law_deck" "_law_deck" (defArgs sDeck) (defBody sDeck) (defScope sDeck) .none kVDeck dcDeck pmDeck anDeck cdDeck ctDeck), slDeck⟩)
    (cDeck : PySem.W.codeIn K cdDeck "_law_deck" = true)
    (kDeck : PySem.W.keepIn K (.ref fDeck) = true)
    (aDraw : PySem.W.nsIn K mainGlobals "_law_draw" = some (some (.ref fDraw)))
    (lDraw : K.lookup fDraw = some ⟨ocDraw, odDraw, .func (PySem.W.fnOf "_law_draw" "_law_draw" (defArgs sDraw) (defBody sDraw) (defScope sDraw) .none kVDraw dcDraw pmDraw anDraw cdDraw ctDraw), slDraw⟩)
    (cDraw : PySem.W.codeIn K cdDraw "_law_draw" = true)
    (kDraw : PySem.W.keepIn K (.ref fDraw) = true)
    (aLWhole : PySem.W.nsIn K mainGlobals "_law_whole" = some (some (.ref fLWhole)))
    (lLWhole : K.lookup fLWhole = some ⟨ocLWhole, odLWhole, .func (PySem.W.fnOf "_law_whole" "_law_whole" (defArgs sLWhole) (defBody sLWhole) (defScope sLWhole) .none kVLWhole dcLWhole pmLWhole anLWhole cdLWhole ctLWhole), slLWhole⟩)
    (cLWhole : PySem.W.codeIn K cdLWhole "_law_whole" = true)
    (kLWhole : PySem.W.keepIn K (.ref fLWhole) = true)
    (aDiv : PySem.W.nsIn K mainGlobals "_law_divides" = some (some (.ref fDiv)))
    (lDiv : K.lookup fDiv = some ⟨ocDiv, odDiv, .func (PySem.W.fnOf "_law_divides" "_law_divides" (defArgs sDiv) (defBody sDiv) (defScope sDiv) .none kVDiv dcDiv pmDiv anDiv cdDiv ctDiv), slDiv⟩)
    (cDiv : PySem.W.codeIn K cdDiv "_law_divides" = true)
    (kDiv : PySem.W.keepIn K (.ref fDiv) = true)
    (aNumIn : PySem.W.nsIn K mainGlobals "_law_number_in" = some (some (.ref fNumIn)))
    (lNumIn : K.lookup fNumIn = some ⟨ocNumIn, odNumIn, .func (PySem.W.fnOf "_law_number_in" "_law_number_in" (defArgs sNumIn) (defBody sNumIn) (defScope sNumIn) .none kVNumIn dcNumIn pmNumIn anNumIn cdNumIn ctNumIn), slNumIn⟩)
    (cNumIn : PySem.W.codeIn K cdNumIn "_law_number_in" = true)
    (kNumIn : PySem.W.keepIn K (.ref fNumIn) = true)
    (aSign : PySem.W.nsIn K mainGlobals "_law_sign" = some (some (.ref fSign)))
    (lSign : K.lookup fSign = some ⟨ocSign, odSign, .func (PySem.W.fnOf "_law_sign" "_law_sign" (defArgs sSign) (defBody sSign) (defScope sSign) .none kVSign dcSign pmSign anSign cdSign ctSign), slSign⟩)
    (cSign : PySem.W.codeIn K cdSign "_law_sign" = true)
    (kSign : PySem.W.keepIn K (.ref fSign) = true)
    (aTwo : PySem.W.nsIn K mainGlobals "_law_two" = some (some (.ref fTwo)))
    (lTwo : K.lookup fTwo = some ⟨ocTwo, odTwo, .func (PySem.W.fnOf "_law_two" "_law_two" (defArgs sTwo) (defBody sTwo) (defScope sTwo) .none kVTwo dcTwo pmTwo anTwo cdTwo ctTwo), slTwo⟩)
    (cTwo : PySem.W.codeIn K cdTwo "_law_two" = true)
    (kTwo : PySem.W.keepIn K (.ref fTwo) = true)
    (aLow : PySem.W.nsIn K mainGlobals "_law_lowest" = some (some (.ref fLow)))
    (lLow : K.lookup fLow = some ⟨ocLow, odLow, .func (PySem.W.fnOf "_law_lowest" "_law_lowest" (defArgs sLow) (defBody sLow) (defScope sLow) .none kVLow dcLow pmLow anLow cdLow ctLow), slLow⟩)
    (cLow : PySem.W.codeIn K cdLow "_law_lowest" = true)
    (kLow : PySem.W.keepIn K (.ref fLow) = true)
    (aIs : PySem.W.nsIn K mainGlobals "_law_is" = some (some (.ref fIs)))
    (lIs : K.lookup fIs = some ⟨ocIs, odIs, .func (PySem.W.fnOf "_law_is" "_law_is" (defArgs sIs) (defBody sIs) (defScope sIs) .none kVIs dcIs pmIs anIs cdIs ctIs), slIs⟩)
    (cIs : PySem.W.codeIn K cdIs "_law_is" = true)
    (kIs : PySem.W.keepIn K (.ref fIs) = true)
    (aWritten : PySem.W.nsIn K mainGlobals "_law_written" = some (some (.ref fWritten)))
    (lWritten : K.lookup fWritten = some ⟨ocWritten, odWritten, .func (PySem.W.fnOf "_law_written" "_law_written" (defArgs sWritten) (defBody sWritten) (defScope sWritten) .none kVWritten dcWritten pmWritten anWritten cdWritten ctWritten), slWritten⟩)
    (cWritten : PySem.W.codeIn K cdWritten "_law_written" = true)
    (kWritten : PySem.W.keepIn K (.ref fWritten) = true)
    (aOdd : PySem.W.nsIn K mainGlobals "_law_odd" = some (some (.ref fOdd)))
    (lOdd : K.lookup fOdd = some ⟨ocOdd, odOdd, .func (PySem.W.fnOf "_law_odd" "_law_odd" (defArgs sOdd) (defBody sOdd) (defScope sOdd) .none kVOdd dcOdd pmOdd anOdd cdOdd ctOdd), slOdd⟩)
    (cOdd : PySem.W.codeIn K cdOdd "_law_odd" = true)
    (kOdd : PySem.W.keepIn K (.ref fOdd) = true)
    (aBent : PySem.W.nsIn K mainGlobals "_law_text_otherwise" = some (some (.ref fBent)))
    (lBent : K.lookup fBent = some ⟨ocBent, odBent, .func (PySem.W.fnOf "_law_text_otherwise" "_law_text_otherwise" (defArgs sBent) (defBody sBent) (defScope sBent) .none kVBent dcBent pmBent anBent cdBent ctBent), slBent⟩)
    (cBent : PySem.W.codeIn K cdBent "_law_text_otherwise" = true)
    (kBent : PySem.W.keepIn K (.ref fBent) = true)
    (aMarks : PySem.W.nsIn K mainGlobals "_law_marks_of" = some (some (.ref fMarks)))
    (lMarks : K.lookup fMarks = some ⟨ocMarks, odMarks, .func (PySem.W.fnOf "_law_marks_of" "_law_marks_of" (defArgs sMarks) (defBody sMarks) (defScope sMarks) .none kVMarks dcMarks pmMarks anMarks cdMarks ctMarks), slMarks⟩)
    (cMarks : PySem.W.codeIn K cdMarks "_law_marks_of" = true)
    (kMarks : PySem.W.keepIn K (.ref fMarks) = true)
    (aLRead : PySem.W.nsIn K mainGlobals "_law_read" = some (some (.ref fLRead)))
    (lLRead : K.lookup fLRead = some ⟨ocLRead, odLRead, .func (PySem.W.fnOf "_law_read" "_law_read" (defArgs sLRead) (defBody sLRead) (defScope sLRead) .none kVLRead dcLRead pmLRead anLRead cdLRead ctLRead), slLRead⟩)
    (cLRead : PySem.W.codeIn K cdLRead "_law_read" = true)
    (kLRead : PySem.W.keepIn K (.ref fLRead) = true)
    (aHeard : PySem.W.nsIn K mainGlobals "_law_heard" = some (some (.ref fHeard)))
    (lHeard : K.lookup fHeard = some ⟨ocHeard, odHeard, .func (PySem.W.fnOf "_law_heard" "_law_heard" (defArgs sHeard) (defBody sHeard) (defScope sHeard) .none kVHeard dcHeard pmHeard anHeard cdHeard ctHeard), slHeard⟩)
    (cHeard : PySem.W.codeIn K cdHeard "_law_heard" = true)
    (kHeard : PySem.W.keepIn K (.ref fHeard) = true)
    (aRight : PySem.W.nsIn K mainGlobals "_law_right" = some (some (.ref fRight)))
    (lRight : K.lookup fRight = some ⟨ocRight, odRight, .func (PySem.W.fnOf "_law_right" "_law_right" (defArgs sRight) (defBody sRight) (defScope sRight) .none kVRight dcRight pmRight anRight cdRight ctRight), slRight⟩)
    (cRight : PySem.W.codeIn K cdRight "_law_right" = true)
    (kRight : PySem.W.keepIn K (.ref fRight) = true)
    (aFixed : PySem.W.nsIn K mainGlobals "_law_fixed" = some (some (.ref fFixed)))
    (lFixed : K.lookup fFixed = some ⟨ocFixed, odFixed, .func (PySem.W.fnOf "_law_fixed" "_law_fixed" (defArgs sFixed) (defBody sFixed) (defScope sFixed) .none kVFixed dcFixed pmFixed anFixed cdFixed ctFixed), slFixed⟩)
    (cFixed : PySem.W.codeIn K cdFixed "_law_fixed" = true)
    (kFixed : PySem.W.keepIn K (.ref fFixed) = true)
    (aLaw : PySem.W.nsIn K mainGlobals "law" = some (some (.ref fLaw)))
    (lLaw : K.lookup fLaw = some ⟨ocLaw, odLaw, .func (PySem.W.fnOf "law" "law" (defArgs sLaw) (defBody sLaw) (defScope sLaw) .none kVLaw dcLaw pmLaw anLaw cdLaw ctLaw), slLaw⟩)
    (cLaw : PySem.W.codeIn K cdLaw "law" = true)
    (kLaw : PySem.W.keepIn K (.ref fLaw) = true)
    (gBLK : PySem.W.nsIn K mainGlobals "BLOCK" = some (some (.int zBLK tBLK)))
    (big : (2 : Int) ^ 1600 ≤ zBLK)
    (ggcd : PySem.W.nsIn K mainGlobals "gcd" = some (some (.builtin "math.gcd")))
    (gTN : PySem.W.nsIn K mainGlobals "TENS" = some (some (.str zTN tTN)))
    (eTN : zTN = TENS)
    (gMF : PySem.W.nsIn K mainGlobals "MOST_FIGURES" = some (some (.int zMF tMF)))
    (eMF : zMF = 12)
    (z_isinstance : PySem.W.nsIn K mainGlobals "isinstance" = some none)
    (z_int : PySem.W.nsIn K mainGlobals "int" = some none)
    (z_bool : PySem.W.nsIn K mainGlobals "bool" = some none)
    (z_abs : PySem.W.nsIn K mainGlobals "abs" = some none)
    (z_max : PySem.W.nsIn K mainGlobals "max" = some none)
    (z_range : PySem.W.nsIn K mainGlobals "range" = some none)
    (z_str : PySem.W.nsIn K mainGlobals "str" = some none)
    (z_reversed : PySem.W.nsIn K mainGlobals "reversed" = some none)
    (z_len : PySem.W.nsIn K mainGlobals "len" = some none)
    (z_all : PySem.W.nsIn K mainGlobals "all" = some none)
    (z_ValueError : PySem.W.nsIn K mainGlobals "ValueError" = some none)
    (g_S : PySem.W.nsIn K mainGlobals "NoText" = some (some (.ref S)))
    (xS : K.lookup S = some (excClassObj nmS qS S NS bsS bmS true snS sbS abS coS ddS e0S e1S e2S e3S e5S "ValueError.__new__"))
    (bvS : PySem.HandSPX.refsVE bmS = true)
    (saS : PySem.W.findIn K (.ref S) "__setattr__" = some (some (.builtin "object.__setattr__")))
    (xbS : PySem.W.subIn K (.ref S) (.type "BaseException") = some true)
    (xtS : PySem.W.typeIn K (.ref S) = some (.type "type"))
    (xkS : PySem.W.keepIn K (.ref S) = true)
    (xiS : PySem.W.findIn K (.ref S) "__init__" = some (some (.ref fTxI)))
    (tfTxI : PySem.W.typeIn K (.ref fTxI) = some (.type "function"))
    (nfS : PySem.W.findIn K (.ref S) "row" = some none)
    (lTxI : K.lookup fTxI = some ⟨ocTxI, odTxI, .func (PySem.W.fnOf "__init__" "NoText.__init__" (defArgs sTxI) (defBody sTxI) (defScope sTxI) (.ref DTxI) kVTxI dcTxI pmTxI anTxI cdTxI ctTxI), slTxI⟩)
    (cTxI : PySem.W.codeIn K cdTxI "NoText.__init__" = true)
    (kTxI : PySem.W.keepIn K (.ref fTxI) = true)
    (lDTxI : K.lookup DTxI = some ⟨ocDTxI, odDTxI, .seq ([Value.int 0 tkDTxI] : List Value).toArray nDTxI, slDTxI⟩)
    (gaS : PySem.W.findIn K (.ref S) "__getattribute__" = some (some (.builtin "BaseException.__getattribute__")))
    (ggS : PySem.W.findIn K (.ref S) "__getattr__" = some none)
    (hdS : PySem.W.hasDictIn K S = true)
    (waS : PySem.W.findIn K (.ref S) "__class__" = some (some (.builtin "object.__class__")))
    (wmS : PySem.W.mroIn K S (.type "object") = some true)
    (g_Xc1 : PySem.W.nsIn K mainGlobals "NoName" = some (some (.ref Xc1)))
    (km_c1 : PySem.W.kitOne K (.ref S) (.ref Xc1) = some false)
    (g_Xc2 : PySem.W.nsIn K mainGlobals "NoGrains" = some (some (.ref Xc2)))
    (km_c2 : PySem.W.kitOne K (.ref S) (.ref Xc2) = some false)
    (g_Xc3 : PySem.W.nsIn K mainGlobals "NoDay" = some (some (.ref Xc3)))
    (km_c3 : PySem.W.kitOne K (.ref S) (.ref Xc3) = some false)
    (g_Xc4 : PySem.W.nsIn K mainGlobals "NoWeight" = some (some (.ref Xc4)))
    (km_c4 : PySem.W.kitOne K (.ref S) (.ref Xc4) = some false)
    (g_Xc5 : PySem.W.nsIn K mainGlobals "NoDeed" = some (some (.ref Xc5)))
    (km_c5 : PySem.W.kitOne K (.ref S) (.ref Xc5) = some false)
    (g_Xc6 : PySem.W.nsIn K mainGlobals "NoRow" = some (some (.ref Xc6)))
    (km_c6 : PySem.W.kitOne K (.ref S) (.ref Xc6) = some false)
    (g_Xc8 : PySem.W.nsIn K mainGlobals "Unknown" = some (some (.ref Xc8)))
    (km_c8 : PySem.W.kitOne K (.ref S) (.ref Xc8) = some false)
    (g_Xc9 : PySem.W.nsIn K mainGlobals "Unborne" = some (some (.ref Xc9)))
    (km_c9 : PySem.W.kitOne K (.ref S) (.ref Xc9) = some false)
    (g_Xd1 : PySem.W.nsIn K mainGlobals "Twice" = some (some (.ref Xd1)))
    (km_d1 : PySem.W.kitOne K (.ref S) (.ref Xd1) = some false)
    (g_Xd2 : PySem.W.nsIn K mainGlobals "TooLate" = some (some (.ref Xd2)))
    (km_d2 : PySem.W.kitOne K (.ref S) (.ref Xd2) = some false)
    (g_Xd3 : PySem.W.nsIn K mainGlobals "NoSum" = some (some (.ref Xd3)))
    (km_d3 : PySem.W.kitOne K (.ref S) (.ref Xd3) = some false)
    (g_Xd4 : PySem.W.nsIn K mainGlobals "Full" = some (some (.ref Xd4)))
    (km_d4 : PySem.W.kitOne K (.ref S) (.ref Xd4) = some false)
    (g_Xd5 : PySem.W.nsIn K mainGlobals "NotAlike" = some (some (.ref Xd5)))
    (km_d5 : PySem.W.kitOne K (.ref S) (.ref Xd5) = some false)
    (g_Xk : PySem.W.nsIn K mainGlobals "CaskError" = some (some (.ref Xk)))
    (km_k : PySem.W.kitOne K (.ref S) (.ref Xk) = some true)
    (g_Xw : PySem.W.nsIn K mainGlobals "Wrong" = some (some (.ref Xw)))
    (km_w : PySem.W.kitOne K (.ref S) (.ref Xw) = some true)
    (kv : PySem.W.kitOne K (.ref S) (.type "ValueError") = some true)
    (ws : PySem.W.kitOne K (.ref C) (.type "str") = some false)
    (kx2 : PySem.W.hasDictIn K Xk = true)
    (kx1 : PySem.W.subIn K (.ref Xk) (.type "BaseException") = some true)
    (kx3 : PySem.W.typeIn K (.ref Xk) = some (.type "type"))
    (sSk : PySem.W.subIn K (.ref S) (.ref Xk) = some true) :
    ∃ fd : FuncData, (∀ (s : Shared) (v : Value), BindsTo s fd ⟨[v], []⟩ [("_law_script", v)]) ∧ ∀ base : Heap, K.In base → base.Ns mainGlobals mg → FnG l.prog w K mg base CX0 8 fa fd ["_law_script"] (spLaw K) := by
  have e := hfa.symm.trans (PySem.W.mg_of X G aLaw)
  cases e
  have CLC : Cls K C := ⟨pgC, hdC, poC, saC⟩
  have NC : WIns K C := ⟨waC, wn, wt, wmC⟩
  have FInit : FunD K "__init__" "Weight.__init__" (defArgs sInit) (defBody sInit) (defScope sInit) [.int 1] [] fInit _ := ⟨⟨_, _, _, _, _, _, _, _, _, _, rfl, lInit, cInit, .inr ⟨by simp, DInit, _, [Value.int 1 tkDInit], _, rfl, lDInit, rfl, .cons (⟨_, rfl⟩) .nil⟩, .inl rfl⟩, kInit⟩
  have mInit : Meth K C "__init__" fInit := ⟨aInit, iInit, kInit⟩
  have FStr := fun_mk (st := sStr) lStr cStr kStr
  have bStr := FStr.binds (ps := ["self"]) fun _ _ _ _ _ _ us hl => match us, hl with | [_], _ => rfl
  have FMade := fun_mk (st := sMade) lMade cMade kMade
  have qMade : Cl K mg "made_of" fMade _ ["text", "signs"] := ⟨PySem.W.mg_of X G aMade, kMade, FMade.binds (ps := ["text", "signs"]) fun _ _ _ _ _ _ us hl => match us, hl with | [_, _], _ => rfl⟩
  have FNumeral := fun_mk (st := sNumeral) lNumeral cNumeral kNumeral
  have qNumeral : Cl K mg "is_numeral" fNumeral _ ["text", "signs", "most"] := ⟨PySem.W.mg_of X G aNumeral, kNumeral, FNumeral.binds (ps := ["text", "signs", "most"]) fun _ _ _ _ _ _ us hl => match us, hl with | [_, _, _], _ => rfl⟩
  have FShow := fun_mk (st := sShow) lShow cShow kShow
  have qShow : Cl K mg "show_whole" fShow _ ["number"] := ⟨PySem.W.mg_of X G aShow, kShow, FShow.binds (ps := ["number"]) fun _ _ _ _ _ _ us hl => match us, hl with | [_], _ => rfl⟩
  have FWhole := fun_mk (st := sWhole) lWhole cWhole kWhole
  have qWhole : Cl K mg "is_whole" fWhole _ ["thing"] := ⟨PySem.W.mg_of X G aWhole, kWhole, FWhole.binds (ps := ["thing"]) fun _ _ _ _ _ _ us hl => match us, hl with | [_], _ => rfl⟩
  have FNumber := fun_mk (st := sNumber) lNumber cNumber kNumber
  have qNumber : Cl K mg "is_number" fNumber _ ["text"] := ⟨PySem.W.mg_of X G aNumber, kNumber, FNumber.binds (ps := ["text"]) fun _ _ _ _ _ _ us hl => match us, hl with | [_], _ => rfl⟩
  have FRead := fun_mk (st := sRead) lRead cRead kRead
  have qRead : Cl K mg "read_weight" fRead _ ["text"] := ⟨PySem.W.mg_of X G aRead, kRead, FRead.binds (ps := ["text"]) fun _ _ _ _ _ _ us hl => match us, hl with | [_], _ => rfl⟩
  have FDeck := fun_mk (st := sDeck) lDeck cDeck kDeck
  have qDeck : Cl K mg "_law_deck" fDeck _ ["_law_cell"] := ⟨PySem.W.mg_of X G aDeck, kDeck, FDeck.binds (ps := ["_law_cell"]) fun _ _ _ _ _ _ us hl => match us, hl with | [_], _ => rfl⟩
  have FDraw := fun_mk (st := sDraw) lDraw cDraw kDraw
  have qDraw : Cl K mg "_law_draw" fDraw _ ["_law_deck_here", "_law_most"] := ⟨PySem.W.mg_of X G aDraw, kDraw, FDraw.binds (ps := ["_law_deck_here", "_law_most"]) fun _ _ _ _ _ _ us hl => match us, hl with | [_, _], _ => rfl⟩
  have FLWhole := fun_mk (st := sLWhole) lLWhole cLWhole kLWhole
  have qLWhole : Cl K mg "_law_whole" fLWhole _ ["_law_thing"] := ⟨PySem.W.mg_of X G aLWhole, kLWhole, FLWhole.binds (ps := ["_law_thing"]) fun _ _ _ _ _ _ us hl => match us, hl with | [_], _ => rfl⟩
  have FDiv := fun_mk (st := sDiv) lDiv cDiv kDiv
  have qDiv : Cl K mg "_law_divides" fDiv _ ["_law_one", "_law_other"] := ⟨PySem.W.mg_of X G aDiv, kDiv, FDiv.binds (ps := ["_law_one", "_law_other"]) fun _ _ _ _ _ _ us hl => match us, hl with | [_, _], _ => rfl⟩
  have FNumIn := fun_mk (st := sNumIn) lNumIn cNumIn kNumIn
  have qNumIn : Cl K mg "_law_number_in" fNumIn _ ["_law_word"] := ⟨PySem.W.mg_of X G aNumIn, kNumIn, FNumIn.binds (ps := ["_law_word"]) fun _ _ _ _ _ _ us hl => match us, hl with | [_], _ => rfl⟩
  have FSign := fun_mk (st := sSign) lSign cSign kSign
  have qSign : Cl K mg "_law_sign" fSign _ ["_law_deck_here"] := ⟨PySem.W.mg_of X G aSign, kSign, FSign.binds (ps := ["_law_deck_here"]) fun _ _ _ _ _ _ us hl => match us, hl with | [_], _ => rfl⟩
  have FTwo := fun_mk (st := sTwo) lTwo cTwo kTwo
  have qTwo : Cl K mg "_law_two" fTwo _ ["_law_deck_here"] := ⟨PySem.W.mg_of X G aTwo, kTwo, FTwo.binds (ps := ["_law_deck_here"]) fun _ _ _ _ _ _ us hl => match us, hl with | [_], _ => rfl⟩
  have FLow := fun_mk (st := sLow) lLow cLow kLow
  have qLow : Cl K mg "_law_lowest" fLow _ ["_law_top", "_law_bottom"] := ⟨PySem.W.mg_of X G aLow, kLow, FLow.binds (ps := ["_law_top", "_law_bottom"]) fun _ _ _ _ _ _ us hl => match us, hl with | [_, _], _ => rfl⟩
  have FIs := fun_mk (st := sIs) lIs cIs kIs
  have qIs : Cl K mg "_law_is" fIs _ ["_law_found", "_law_top", "_law_bottom"] := ⟨PySem.W.mg_of X G aIs, kIs, FIs.binds (ps := ["_law_found", "_law_top", "_law_bottom"]) fun _ _ _ _ _ _ us hl => match us, hl with | [_, _, _], _ => rfl⟩
  have FWritten := fun_mk (st := sWritten) lWritten cWritten kWritten
  have qWritten : Cl K mg "_law_written" fWritten _ ["_law_top", "_law_bottom"] := ⟨PySem.W.mg_of X G aWritten, kWritten, FWritten.binds (ps := ["_law_top", "_law_bottom"]) fun _ _ _ _ _ _ us hl => match us, hl with | [_, _], _ => rfl⟩
  have FOdd := fun_mk (st := sOdd) lOdd cOdd kOdd
  have qOdd : Cl K mg "_law_odd" fOdd _ ["_law_deck_here"] := ⟨PySem.W.mg_of X G aOdd, kOdd, FOdd.binds (ps := ["_law_deck_here"]) fun _ _ _ _ _ _ us hl => match us, hl with | [_], _ => rfl⟩
  have FBent := fun_mk (st := sBent) lBent cBent kBent
  have qBent : Cl K mg "_law_text_otherwise" fBent _ ["_law_deck_here", "_law_text"] := ⟨PySem.W.mg_of X G aBent, kBent, FBent.binds (ps := ["_law_deck_here", "_law_text"]) fun _ _ _ _ _ _ us hl => match us, hl with | [_, _], _ => rfl⟩
  have FMarks := fun_mk (st := sMarks) lMarks cMarks kMarks
  have qMarks : Cl K mg "_law_marks_of" fMarks _ ["_law_e", "_law_right_here"] := ⟨PySem.W.mg_of X G aMarks, kMarks, FMarks.binds (ps := ["_law_e", "_law_right_here"]) fun _ _ _ _ _ _ us hl => match us, hl with | [_, _], _ => rfl⟩
  have FLRead := fun_mk (st := sLRead) lLRead cLRead kLRead
  have qLRead : Cl K mg "_law_read" fLRead _ ["_law_text"] := ⟨PySem.W.mg_of X G aLRead, kLRead, FLRead.binds (ps := ["_law_text"]) fun _ _ _ _ _ _ us hl => match us, hl with | [_], _ => rfl⟩
  have FHeard := fun_mk (st := sHeard) lHeard cHeard kHeard
  have qHeard : Cl K mg "_law_heard" fHeard _ ["_law_thing"] := ⟨PySem.W.mg_of X G aHeard, kHeard, FHeard.binds (ps := ["_law_thing"]) fun _ _ _ _ _ _ us hl => match us, hl with | [_], _ => rfl⟩
  have FRight := fun_mk (st := sRight) lRight cRight kRight
  have qRight : Cl K mg "_law_right" fRight _ ["_law_thing"] := ⟨PySem.W.mg_of X G aRight, kRight, FRight.binds (ps := ["_law_thing"]) fun _ _ _ _ _ _ us hl => match us, hl with | [_], _ => rfl⟩
  have FFixed := fun_mk (st := sFixed) lFixed cFixed kFixed
  have qFixed : Cl K mg "_law_fixed" fFixed _ [] := ⟨PySem.W.mg_of X G aFixed, kFixed, FFixed.binds (ps := []) fun _ _ _ _ _ _ us hl => match us, hl with | [], _ => rfl⟩
  have FLaw := fun_mk (st := sLaw) lLaw cLaw kLaw
  have OES : OexC K S := ⟨⟨nmS, qS, NS, bsS, bmS, snS, sbS, abS, coS, ddS, e0S, e1S, e2S, e3S, e5S, xS, bvS⟩, saS, xbS, xtS, xkS⟩
  have FTxI : FunD K "__init__" "NoText.__init__" (defArgs sTxI) (defBody sTxI) (defScope sTxI) [.int 0] [] fTxI _ := ⟨⟨_, _, _, _, _, _, _, _, _, _, rfl, lTxI, cTxI, .inr ⟨by simp, DTxI, _, [Value.int 0 tkDTxI], _, rfl, lDTxI, rfl, .cons ⟨_, rfl⟩ .nil⟩, .inl rfl⟩, kTxI⟩
  have ECS : ExcC K S := ⟨gaS, ggS, xbS, hdS, waS, wn, wt, wmS⟩
  refine ⟨PySem.W.fnOf "law" "law" (defArgs sLaw) (defBody sLaw) (defScope sLaw) .none kVLaw dcLaw pmLaw anLaw cdLaw ctLaw, fun s v => .of_eq rfl, fun base _ _ => ?_⟩
  have T : WTxt K mg C fWhole := ⟨CLC, nC_top, nC_bottom, PySem.W.mg_of X G aC, PySem.W.mg_of X G aWhole, kWhole, PySem.W.mg_of X G ggcd⟩
  have B : Blt mg := ⟨(PySem.W.mg_none_of X G z_isinstance), (PySem.W.mg_none_of X G z_int), (PySem.W.mg_none_of X G z_bool)⟩
  have M : Mk K C fInit := ⟨mkC, aInit, iInit, kcC⟩
  have bI : Binds K _ ["self", "top", "bottom"] [] := bindsI FInit
  obtain ⟨ds, vd, bI1⟩ := bindsI1 FInit
  have ZS : STxt K mg S fTxI := ⟨PySem.W.mg_of X G g_S, OES, xiS, tfTxI, nfS⟩
  have MT : MTx8 K mg S := ⟨ECS, (PySem.W.mg_none_of X G z_isinstance), ⟨_, PySem.W.mg_of X G g_Xc1, km_c1⟩, ⟨_, PySem.W.mg_of X G g_Xc2, km_c2⟩, ⟨_, PySem.W.mg_of X G g_Xc3, km_c3⟩, ⟨_, PySem.W.mg_of X G g_Xc4, km_c4⟩, ⟨_, PySem.W.mg_of X G g_Xc5, km_c5⟩, ⟨_, PySem.W.mg_of X G g_Xc6, km_c6⟩, ⟨_, PySem.W.mg_of X G g_S, kit_self⟩, ⟨_, PySem.W.mg_of X G g_Xc8, km_c8⟩, ⟨_, PySem.W.mg_of X G g_Xc9, km_c9⟩, ⟨_, PySem.W.mg_of X G g_Xd1, km_d1⟩, ⟨_, PySem.W.mg_of X G g_Xd2, km_d2⟩, ⟨_, PySem.W.mg_of X G g_Xd3, km_d3⟩, ⟨_, PySem.W.mg_of X G g_Xd4, km_d4⟩, ⟨_, PySem.W.mg_of X G g_Xd5, km_d5⟩, ⟨_, PySem.W.mg_of X G g_Xk, km_k⟩, ⟨_, PySem.W.mg_of X G g_Xw, km_w⟩, (PySem.W.mg_none_of X G z_ValueError), kv⟩
  have GWv := ok_wholeV (P := l.prog) (w := w) (base := base) FWhole B
  have GLWv := ok_lwholeV (P := l.prog) (w := w) (base := base) FLWhole B
  have GW := _root_.K.FnOk.ints GWv
  have GLW := _root_.K.FnOk.ints GLWv
  have GI := ok_init FInit T GW qWhole.b
  have GSh := ok_show (P := l.prog) (w := w) (mg := mg) (base := base) FShow (PySem.W.mg_none_of X G z_str) (PySem.W.mg_none_of X G z_reversed) (PySem.W.mg_of X G gBLK) big
  have GS := ok_str FStr T qShow GSh
  have GMd := ok_made (P := l.prog) (w := w) (base := base) FMade (PySem.W.mg_none_of X G z_all)
  have GNl := ok_numeral FNumeral (PySem.W.mg_none_of X G z_len) qMade GMd
  have GNb := ok_number FNumber qNumeral GNl (PySem.W.mg_of X G gTN) eTN (PySem.W.mg_of X G gMF) eMF
  have GU := ok_txI (P := l.prog) (w := w) (base := base) FTxI ZS
  have GRd := ok_read FRead T B (PySem.W.mg_none_of X G z_str) M GI bI qNumber GNb GS aStr iStr bStr ZS GU (bindsX FTxI)
  have GDk := ok_deck (P := l.prog) (w := w) (mg := mg) (base := base) FDeck B
  have GDr := ok_draw (P := l.prog) (w := w) (mg := mg) (base := base) FDraw
  have GDv := ok_div (P := l.prog) (w := w) (mg := mg) (base := base) FDiv (PySem.W.mg_none_of X G z_abs)
  have GNi := ok_numin (P := l.prog) (w := w) (base := base) FNumIn B (PySem.W.mg_none_of X G z_len)
  have GLr := ok_lread FLRead (PySem.W.mg_none_of X G z_len) qNumIn GNi qDiv GDv
  have GTw := ok_two FTwo (PySem.W.mg_none_of X G z_max) (PySem.W.mg_none_of X G z_range) qDraw GDr
  have GLo := ok_low FLow qDiv GDv
  have GIs := ok_is FIs T B NC qLWhole GLW qLow GLo
  have GWr := ok_written FWritten (PySem.W.mg_none_of X G z_str) qLow GLo
  have GOd := ok_odd FOdd T (PySem.W.mg_none_of X G z_range) (PySem.W.mg_none_of X G z_len) M GI bI vd bI1 qDraw GDr
  have GSi := ok_sign FSign (PySem.W.mg_none_of X G z_len) qDraw GDr
  have GBe := ok_bent FBent B (PySem.W.mg_none_of X G z_len) qDraw GDr qSign GSi
  have GMa := ok_marks (P := l.prog) (w := w) (base := base) FMarks MT
  have GHe := ok_heard FHeard qRead GRd MT qMarks GMa (PySem.W.mg_of X G g_Xk) (PySem.W.exm_ref kx1 kx2 kx3 sSk)
  have GRi := ok_right FRight T NC B (PySem.W.mg_none_of X G z_str) ws qLRead GLr qHeard GHe qIs GIs
  have GFx := ok_fixed FFixed T M GI bI vd bI1
  exact ok_law FLaw (PySem.W.mg_none_of X G z_range) qFixed GFx qRight GRi qDeck GDk qTwo GTw qWritten GWr qDraw GDr qBent GBe qOdd GOd
theorem walk {l : PySem.W.OpenLaw} {q : Program} {loose : List Str} {XP : (Str → Option Value) → Heap → Prop} {YP : World → Heap → Prop} {d : DefRec} {K : Params → PySem.W.Frag} (hn : l.most = some 63) (hdf : d.params.defaults = [])
    (hY : ∀ (w : World) (h : Heap), YP w h → (K w.params).In h)
    (F : ∀ (w : World) (mg : Str → Option Value) (fa : Addr) (h : Heap), (K w.params).In h → h.Ns mainGlobals mg → mg d.name = some (.ref fa) →
      ∃ fd : FuncData, (∀ (s : Shared) (u : Value), BindsTo s fd ⟨[u], []⟩ [("_law_script", u)]) ∧ ∀ base : Heap, (K w.params).In base → base.Ns mainGlobals mg → FnG l.prog w (K w.params) mg base CX0 8 fa fd ["_law_script"] (spLaw (K w.params))) :
    PySem.W.WalkO q loose XP YP l.row.toRowW d [] (fun f vs => PySem.call f vs) :=
  walk_ofG (n := 63) (k := 8) (x := "_law_script") (CX := fun _ => CX0) (sp := fun w => spLaw (K w.params)) hn (by decide) hdf ⟨rfl, by decide, by decide⟩ hY F (fun _ _ a ns hl _ hS => ⟨a, ns, rfl, hS, hl, fun _ => rfl⟩) fun _ _ _ _ _ z => z
end K
open PySem PySem.W PyProof.Rows
set_option maxRecDepth 100000 in
set_option maxHeartbeats 0 in
theorem PySem.Challenge.cw_casknotes_k08_texts_of_no_weight_holds : PySem.Challenge.rw_casknotes_k08_texts_of_no_weight.Holds := by
  w_on; o_law; k_head; (case hw => w_witness2)
  k_fill
  refine K.walk (l := PySem.Challenge.rw_casknotes_k08_texts_of_no_weight) rfl rfl (fun w h Y => PySem.W.kIn_of Y) ?F
  case F =>
    intro w mg fa h KX G hmg
    refine' K.all_mk KX G hmg ?aC ?pgC ?hdC ?poC ?saC ?mkC ?kcC ?nC_top ?nC_bottom ?waC ?wmC ?wneC ?wn ?wt ?aInit ?iInit ?lInit ?cInit ?kInit ?lDInit ?aStr ?iStr ?lStr ?cStr ?kStr ?aMade ?lMade ?cMade ?kMade ?aNumeral ?lNumeral ?cNumeral ?kNumeral ?aShow ?lShow ?cShow ?kShow ?aWhole ?lWhole ?cWhole ?kWhole ?aNumber ?lNumber ?cNumber ?kNumber ?aRead ?lRead ?cRead ?kRead ?aDeck ?lDeck ?cDeck ?kDeck ?aDraw ?lDraw ?cDraw ?kDraw ?aLWhole ?lLWhole ?cLWhole ?kLWhole ?aDiv ?lDiv ?cDiv ?kDiv ?aNumIn ?lNumIn ?cNumIn ?kNumIn ?aSign ?lSign ?cSign ?kSign ?aTwo ?lTwo ?cTwo ?kTwo ?aLow ?lLow ?cLow ?kLow ?aIs ?lIs ?cIs ?kIs ?aWritten ?lWritten ?cWritten ?kWritten ?aOdd ?lOdd ?cOdd ?kOdd ?aBent ?lBent ?cBent ?kBent ?aMarks ?lMarks ?cMarks ?kMarks ?aLRead ?lLRead ?cLRead ?kLRead ?aHeard ?lHeard ?cHeard ?kHeard ?aRight ?lRight ?cRight ?kRight ?aFixed ?lFixed ?cFixed ?kFixed ?aLaw ?lLaw ?cLaw ?kLaw ?gBLK ?big ?ggcd ?gTN ?eTN ?gMF ?eMF ?z_isinstance ?z_int ?z_bool ?z_abs ?z_max ?z_range ?z_str ?z_reversed ?z_len ?z_all ?z_ValueError ?g_S ?xS ?bvS ?saS ?xbS ?xtS ?xkS ?xiS ?tfTxI ?nfS ?lTxI ?cTxI ?kTxI ?lDTxI ?gaS ?ggS ?hdS ?waS ?wmS ?g_Xc1 ?km_c1 ?g_Xc2 ?km_c2 ?g_Xc3 ?km_c3 ?g_Xc4 ?km_c4 ?g_Xc5 ?km_c5 ?g_Xc6 ?km_c6 ?g_Xc8 ?km_c8 ?g_Xc9 ?km_c9 ?g_Xd1 ?km_d1 ?g_Xd2 ?km_d2 ?g_Xd3 ?km_d3 ?g_Xd4 ?km_d4 ?g_Xd5 ?km_d5 ?g_Xk ?km_k ?g_Xw ?km_w ?kv ?ws ?kx2 ?kx1 ?kx3 ?sSk
    (case aC => k_is)
    (case pgC => k_is)
    (case hdC => k_is)
    (case poC => k_is)
    (case saC => k_is)
    (case mkC => k_is)
    (case kcC => k_is)
    (case nC_top => k_is)
    (case nC_bottom => k_is)
    (case waC => k_is)
    (case wmC => k_is)
    (case wneC => k_is)
    (case wn => k_is)
    (case wt => k_is)
    (case aInit => k_is)
    (case iInit => k_is)
    (case lInit => k_is)
    (case cInit => k_is)
    (case kInit => k_is)
    (case lDInit => k_is)
    (case aStr => k_is)
    (case iStr => k_is)
    (case lStr => k_is)
    (case cStr => k_is)
    (case kStr => k_is)
    (case aMade => k_is)
    (case lMade => k_is)
    (case cMade => k_is)
    (case kMade => k_is)
    (case aNumeral => k_is)
    (case lNumeral => k_is)
    (case cNumeral => k_is)
    (case kNumeral => k_is)
    (case aShow => k_is)
    (case lShow => k_is)
    (case cShow => k_is)
    (case kShow => k_is)
    (case aWhole => k_is)
    (case lWhole => k_is)
    (case cWhole => k_is)
    (case kWhole => k_is)
    (case aNumber => k_is)
    (case lNumber => k_is)
    (case cNumber => k_is)
    (case kNumber => k_is)
    (case aRead => k_is)
    (case lRead => k_is)
    (case cRead => k_is)
    (case kRead => k_is)
    (case aDeck => k_is)
    (case lDeck => k_is)
    (case cDeck => k_is)
    (case kDeck => k_is)
    (case aDraw => k_is)
    (case lDraw => k_is)
    (case cDraw => k_is)
    (case kDraw => k_is)
    (case aLWhole => k_is)
    (case lLWhole => k_is)
    (case cLWhole => k_is)
    (case kLWhole => k_is)
    (case aDiv => k_is)
    (case lDiv => k_is)
    (case cDiv => k_is)
    (case kDiv => k_is)
    (case aNumIn => k_is)
    (case lNumIn => k_is)
    (case cNumIn => k_is)
    (case kNumIn => k_is)
    (case aSign => k_is)
    (case lSign => k_is)
    (case cSign => k_is)
    (case kSign => k_is)
    (case aTwo => k_is)
    (case lTwo => k_is)
    (case cTwo => k_is)
    (case kTwo => k_is)
    (case aLow => k_is)
    (case lLow => k_is)
    (case cLow => k_is)
    (case kLow => k_is)
    (case aIs => k_is)
    (case lIs => k_is)
    (case cIs => k_is)
    (case kIs => k_is)
    (case aWritten => k_is)
    (case lWritten => k_is)
    (case cWritten => k_is)
    (case kWritten => k_is)
    (case aOdd => k_is)
    (case lOdd => k_is)
    (case cOdd => k_is)
    (case kOdd => k_is)
    (case aBent => k_is)
    (case lBent => k_is)
    (case cBent => k_is)
    (case kBent => k_is)
    (case aMarks => k_is)
    (case lMarks => k_is)
    (case cMarks => k_is)
    (case kMarks => k_is)
    (case aLRead => k_is)
    (case lLRead => k_is)
    (case cLRead => k_is)
    (case kLRead => k_is)
    (case aHeard => k_is)
    (case lHeard => k_is)
    (case cHeard => k_is)
    (case kHeard => k_is)
    (case aRight => k_is)
    (case lRight => k_is)
    (case cRight => k_is)
    (case kRight => k_is)
    (case aFixed => k_is)
    (case lFixed => k_is)
    (case cFixed => k_is)
    (case kFixed => k_is)
    (case aLaw => k_is)
    (case lLaw => k_is)
    (case cLaw => k_is)
    (case kLaw => k_is)
    (case gBLK => k_is)
    (case big => decide +kernel)
    (case ggcd => k_is)
    (case gTN => k_is)
    (case eTN => decide +kernel)
    (case gMF => k_is)
    (case eMF => decide +kernel)
    (case z_isinstance => k_is)
    (case z_int => k_is)
    (case z_bool => k_is)
    (case z_abs => k_is)
    (case z_max => k_is)
    (case z_range => k_is)
    (case z_str => k_is)
    (case z_reversed => k_is)
    (case z_len => k_is)
    (case z_all => k_is)
    (case z_ValueError => k_is)
    (case g_S => k_is)
    (case xS => k_is)
    (case bvS => decide +kernel)
    (case saS => k_is)
    (case xbS => k_is)
    (case xtS => k_is)
    (case xkS => k_is)
    (case xiS => k_is)
    (case tfTxI => k_is)
    (case nfS => k_is)
    (case lTxI => k_is)
    (case cTxI => k_is)
    (case kTxI => k_is)
    (case lDTxI => k_is)
    (case gaS => k_is)
    (case ggS => k_is)
    (case hdS => k_is)
    (case waS => k_is)
    (case wmS => k_is)
    (case g_Xc1 => k_is)
    (case km_c1 => kit_is)
    (case g_Xc2 => k_is)
    (case km_c2 => kit_is)
    (case g_Xc3 => k_is)
    (case km_c3 => kit_is)
    (case g_Xc4 => k_is)
    (case km_c4 => kit_is)
    (case g_Xc5 => k_is)
    (case km_c5 => kit_is)
    (case g_Xc6 => k_is)
    (case km_c6 => kit_is)
    (case g_Xc8 => k_is)
    (case km_c8 => kit_is)
    (case g_Xc9 => k_is)
    (case km_c9 => kit_is)
    (case g_Xd1 => k_is)
    (case km_d1 => kit_is)
    (case g_Xd2 => k_is)
    (case km_d2 => kit_is)
    (case g_Xd3 => k_is)
    (case km_d3 => kit_is)
    (case g_Xd4 => k_is)
    (case km_d4 => kit_is)
    (case g_Xd5 => k_is)
    (case km_d5 => kit_is)
    (case g_Xk => k_is)
    (case km_k => kit_is)
    (case g_Xw => k_is)
    (case km_w => kit_is)
    (case kv => kit_is)
    (case ws => kit_is)
    (case kx2 => k_is)
    (case kx1 => k_is)
    (case kx3 => k_is)
    (case sSk => k_is)
