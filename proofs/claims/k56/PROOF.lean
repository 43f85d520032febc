import PyProof.Rows.All
import Wide.All
import OpenK.AllK
import Wide.FinOn
import HandS.ForMost
import HandS.IsInst
import HandS.Wide
import HandS.Style
import HandS.Walk
import HandS.Zip
import HandS.Flow
import HandS.ForExc
import HandS.ExcInit
import HandS.Property
import HandS.TupSets
import HandS.Ends
import HandS.OwnEq
import HandS.MakeKw
import HandS.MakeKwOnly
import PySem.Challenge.RW_orderlycore_k56_whole_the_buffer_by_an_o
set_option Elab.async false
set_option linter.all false
set_option maxRecDepth 100000
set_option maxHeartbeats 4000000
namespace Hx
open PySem PySem.Spec PyProof.Rows L2
/-! ### own rules -/
section
variable {X : Cx} {CX : CXT} {k : Nat} {f : Addr} {fd : FuncData} {ps ks : List Str} {sp : Sp} {E : XK} {x : Str} {p pos : Pos} {kws : List Keyword} {tk : TA} {g : List Value → List Value → List Value} {gV : List V → List V → List V}
theorem pe_callKA (F : FnOk X.prog X.w X.K X.mg X.base CX k f fd ps sp) (hr : Room k X.A) (hg : Gl X x) (hm : X.mg x = some (.ref f)) (hk : PySem.W.keepIn X.K (.ref f) = true) (hb : KBinds X.K fd ps ks g gV) (hx : Passes CX X E)
    (hkw : PK X kws tk) (hall : (backToKw pos (keywordEach kws X.env)).all (·.1.isSome) = true := by rfl) (hks : (backToKw pos (keywordEach kws X.env)).filterMap (·.1) = ks := by rfl)
    (hdb : (x == ("__debug__" : Str)) = false := by decide)
    (hpl : ((backTo pos (starEach [] X.env)).any (·.1) || (backToKw pos (keywordEach kws X.env)).any (·.1.isNone)) = false := by rfl) :
    PE X (.Call (.Name x p) [] kws pos) (tCallK sp gV E tNil tk) := by
  refine ⟨fun pins s σ H Q I h => ?_⟩
  refine wpAny_Call_Name_kw (ld_glob I hg hm ?_ hdb)
  refine PySem.W.callWith_KW0 (h₀ := X.base) I.ok.mod.kin hk hall ?_ hpl
  refine thn (hkw.run pos pins s σ H _ I h) fun ws s2 ⟨zs, H2, I2, rz, q2⟩ => ⟨I2.kIn, ?_⟩
  rw [hks]
  exact run_fnk F hr hb hx I2 .nil rz q2
/-- all by keywords, in the parameters' own order -/
def kwG {α : Type} (us ws : List α) : List α := match us with | [] => ws | _ => []
theorem kw_binds {K : PySem.W.Frag} {x qual : Str} {st : Stmt} {f : Addr} {fd : FuncData} {ps : List Str} (F : Fun K x qual st f fd) (h0 : 0 < ps.length)
    (h : ∀ (kV doc pm : Value) (an : Option Addr) (cdv ct : Value) (us : List Value), us.length = ps.length → bindArgs (PySem.W.fnOf x qual (defArgs st) (defBody st) (defScope st) .none kV doc pm an cdv ct) ⟨[], ps.zip us⟩ = pure (ps.zip us)) : KBinds K fd ps ps kwG kwG := by
  obtain ⟨oc, od, kV, doc, pm, an, cdv, ct, osl, rfl, lk, hcd⟩ := F.ex
  refine ⟨fun s us ws _ hl => ?_, fun {vs us zs ws} r1 r2 => ?_⟩
  · cases us with
    | nil => exact .of_eq (h kV doc pm an cdv ct ws hl)
    | cons a t => exact absurd hl (by simp [kwG]; omega)
  · cases r1 with
    | nil => exact r2
    | cons a t => exact .nil
theorem pg_pair {i j : Nat} {x y : Str} {p1 p2 : Pos} {kk : Nat} (hc : X.calm = true) (hN : X.N.Nodup) (hi : X.N[i]? = some x) (hj : X.N[j]? = some y) (hx : Loc X.env.scope x) (hy : Loc X.env.scope y)
    (hf : X.fn x = true ∨ X.env.scope.names.lookup x = some .local := by first | exact .inl rfl | exact .inr rfl | assumption) (hf2 : X.fn y = true ∨ X.env.scope.names.lookup y = some .local := by first | exact .inl rfl | exact .inr rfl | assumption)
    (hn : (assignEach [Expr.Name x p1, .Name y p2] X.env).length = 2 := by rfl) (hst : (assignEach [Expr.Name x p1, .Name y p2] X.env).findIdx? (·.1) = none := by rfl)
    (hs : (assignEach [Expr.Name x p1, .Name y p2] X.env).map (·.2) = assign (.Name x p1) X.env :: (assignEach [Expr.Name y p2] X.env).map (·.2) := by rfl)
    (hs2 : (assignEach [Expr.Name y p2] X.env).map (·.2) = assign (.Name y p2) X.env :: (assignEach [] X.env).map (·.2) := by rfl) :
    PG X (.Tuple [.Name x p1, .Name y p2] kk pos) (gTup X.K 2 (gCons (gName i) (gCons (gName j) gNil))) :=
  pg_tup hc (pgs_cons (pg_name hN hi hx hf) (pgs_cons (pg_name hN hj hy hf2) pgs_nil hs2) hs) hn hst
theorem pe_gint {i : Int} (hg : Gl X x) (hm : ∃ t, X.mg x = some (.int i t)) (hd : (x == ("__debug__" : Str)) = false := by decide) : PE X (.Name x pos) (tC (.int i)) := by
  obtain ⟨t, hm⟩ := hm
  exact pe_glob hg hm ⟨_, rfl⟩ hd
end
theorem call_int1i {X : Cx} : CallR X (.type "int") (fun xs H Q => ∃ i, xs = [.int i] ∧ Q (.int i) H) := fun pins s σ H xs us Q I r h => call_int1 pins s σ H xs us Q I r (.inl h)
theorem call_int1b {X : Cx} : CallR X (.type "int") (fun xs H Q => ∃ k, xs = [.bl k] ∧ Q (.int (if k then 1 else 0)) H) := fun pins s σ H xs us Q I r h => call_int1 pins s σ H xs us Q I r (.inr h)
theorem call_len_list {X : Cx} : CallR X (.builtin "len") (fun xs H Q => ∃ p ys, xs = [.ref p] ∧ SqL X.K H p ys ∧ Q (.int ys.length) H) := fun pins s σ H xs us Q I r ⟨p, ys, e, h, q⟩ => call_len_seq pins s σ H xs us Q I r ⟨p, ys, e, .inl h, q⟩
/-- a goal at which the walker of readings stops -/
structure Stop (p : Prop) : Prop where
  h : p
theorem stop_eq {p : Prop} : Stop p = p := propext ⟨fun q => q.h, fun q => ⟨q⟩⟩
def tForS (wi : TI) (g : TG) (tb : TS) : TS := fun D σ H => wi σ H fun J H1 => Stop (∃ W : Nat → Nat → L2.St → Hp → Prop, (∃ m, W 0 m σ H1) ∧ ∀ i m σ H, W i m σ H →
  (J.stop i H ∧ D.nx σ H) ∨ (J.go i H ∧ ∃ N : L2.St → Hp → Prop, (∀ σ' H', N σ' H' → ∃ m', m' < m ∧ W (i + 1) m' σ' H') ∧ ∀ x H', J.yld i H x H' → g x σ H' fun σ2 H2 => tb { D with nx := N, ct := N, bk := D.nx } σ2 H2))
theorem tForS_eq (wi : TI) (g : TG) (tb : TS) : tForS wi g tb = tFor wi g tb := by
  funext D σ H
  unfold tForS tFor
  simp only [stop_eq]
theorem ps_forS {X : Cx} {tg iter : Expr} {body : List Stmt} {wi : TI} {g : TG} {tb : TS} {pos : Pos} (hp : PassesOwn (model X.prog X.w) X.A X.env X.xe) (hc : X.calm = true) (hi : PI X tg iter wi) (hg : PG X tg g) (hb : PSs X body tb)
    (hs : ∀ x, foldedSetIterable iter X.env x = pure x := by intro _; rfl) : PS X (.For tg iter body [] pos) (tForS wi g tb) := by
  rw [tForS_eq]
  exact ps_for hp hc hi hg hb hs
/-! ### heaps -/
theorem same_upd {H : Hp} {p : Addr} {o : HO} (h : H p = none) : Same H (upd H p o) := fun b u e => by rw [upd_ne (ne_of_none e h)]; exact e
theorem Same.upd {H H1 : Hp} {p : Addr} {o : HO} (s : Same H H1) (h : H1 p = none) : Same H (L2.upd H1 p o) := L2.Same.trans s (same_upd h)
theorem Same.free' {H H1 : Hp} (s : Same H H1) {p : Addr} (h : H1 p = none) : H p = none := L2.Same.free s h
/-- all but a is as it was -/
def But (a : Addr) (H H' : Hp) : Prop := ∀ b o, b ≠ a → H b = some o → H' b = some o
theorem But.refl {a : Addr} (H : Hp) : But a H H := fun _ _ _ h => h
theorem But.trans {a : Addr} {H H1 H2 : Hp} (x : But a H H1) (y : But a H1 H2) : But a H H2 := fun b o n h => y b o n (x b o n h)
theorem But.same {a : Addr} {H H1 : Hp} (x : Same H H1) : But a H H1 := fun b o _ h => x b o h
theorem But.set {a : Addr} {H : Hp} {o : HO} : But a H (upd H a o) := fun b u n h => by rw [upd_ne n]; exact h
theorem But.new {a : Addr} {H H1 : Hp} {p : Addr} {o : HO} (x : But a H H1) (h : H1 p = none) : But a H (upd H1 p o) := x.trans (But.same (same_upd h))
theorem size_le {n : Nat} (h : n ≤ 10000) : n ≤ sizeLine := by rw [sizeLine_eq]; omega
theorem size_lt {n : Nat} (h : n ≤ 10000) : n < sizeLine := by rw [sizeLine_eq]; omega
theorem iteD {c A B : Prop} [Decidable c] (h1 : c → A) (h2 : ¬ c → B) : if decide c = true then A else B := by
  by_cases h : c
  · rw [decide_eq_true h]; exact iteT (h1 h)
  · rw [decide_eq_false h]; exact iteF (h2 h)
theorem iteN {c A B : Prop} [Decidable c] (h1 : ¬ c → A) (h2 : c → B) : if (!decide c) = true then A else B := by
  by_cases h : c
  · rw [decide_eq_true h]; exact iteF (h2 h)
  · rw [decide_eq_false h]; exact iteT (h1 h)
theorem qbl {Q : VK} {b c : Bool} {H : Hp} (k : Q (.bl b) H) (e : c = b) : Q (.bl c) H := e ▸ k
theorem qint {Q : VK} {i j : Int} {H : Hp} (k : Q (.int i) H) (e : j = i) : Q (.int j) H := e ▸ k
theorem same_set {H H1 : Hp} {p : Addr} {o : HO} (s : Same H H1) (n : H p = none) : Same H (upd H1 p o) := fun b u e => by rw [upd_ne (ne_of_none e n)]; exact s b u e
theorem old_upd {H : Hp} {p a : Addr} {o u : HO} (n : H p = none) (h : H a = some u) : upd H p o a = some u := same_upd n _ _ h
theorem SqL.new {K : PySem.W.Frag} {H : Hp} {p a : Addr} {o : HO} {xs : List V} (n : H p = none) (h : SqL K H a xs) : SqL K (upd H p o) a xs := L2.Same.seq (same_upd n) h
theorem tyl_new {K : PySem.W.Frag} {H : Hp} {p a : Addr} {o : HO} {xs : List V} (h : H a = some (.lst xs)) (n : H p = none) : tyV K "list" (.ref a) (upd H p o) := Or.inl ⟨rfl, xs, SqL.of (old_upd n h)⟩
theorem tyl_of {K : PySem.W.Frag} {H : Hp} {a : Addr} {xs : List V} (h : H a = some (.lst xs)) : tyV K "list" (.ref a) H := Or.inl ⟨rfl, xs, SqL.of h⟩
theorem same_at {H H' : Hp} {a : Addr} {u : HO} (s : Same H H') (h : H a = some u) : H' a = some u := s _ _ h
theorem same_trans' {H H1 H2 : Hp} (b : Same H1 H2) (a : Same H H1) : Same H H2 := L2.Same.trans a b
/-! ### comprehensions that keep what stood -/
theorem lc_mapS {K : PySem.W.Frag} {a : Addr} {xs : List V} {g : TG} {te : TE} {vs : List Nat} {σ : L2.St} {H1 : Hp} {D : Addr} {Qd : Hp → Prop} (ys : List V) (ha : SqL K H1 a xs) (hD : H1 D = none) (hl : xs.length = ys.length) (hz : xs.length ≤ 10000)
    (hs : ∀ (i : Nat) (x y : V) (H' : Hp) (Q : VK), xs[i]? = some x → ys[i]? = some y → Same H1 H' → (∀ H'', Same H' H'' → Q y H'') → g x (wipe σ vs) H' fun σ2 H2 => wipe σ2 vs = wipe σ vs ∧ te σ2 H2 Q)
    (hd : ∀ H', Same H1 H' → H' D = some (.lst ys) → Qd H') :
    ∃ W : Nat → Nat → Hp → Prop, (∃ m, W 0 m (upd H1 D (.lst []))) ∧ ∀ i m H, W i m H →
      ((Itl K a).stop i H ∧ Qd H) ∨ ((Itl K a).go i H ∧ ∃ Nx : Hp → Prop, (∀ H', Nx H' → ∃ m', m' < m ∧ W (i + 1) m' H') ∧ ∀ x H', (Itl K a).yld i H x H' → g x (wipe σ vs) H' fun σ2 H2 => wipe σ2 vs = wipe σ vs ∧ tYes σ2 H2 fun b H3 =>
        if b = true then te σ2 H3 fun y H4 => ∃ acc, H4 D = some (.lst acc) ∧ acc.length < sizeLine ∧ Nx (upd H4 D (.lst (acc ++ [y]))) else Nx H3) := by
  refine lc_list (xs := xs) (fun i H => Same H1 H ∧ H D = some (.lst (ys.take i))) ⟨same_upd hD, upd_same⟩ (fun i H _ h => L2.Same.seq h.1 ha) (fun i x H hx h => ?_) (fun H h => hd H h.1 (by rw [h.2, List.take_of_length_le (by omega)]))
  have hi : i < ys.length := by have := (List.getElem?_eq_some_iff.mp hx).1; omega
  refine hs i x ys[i] H _ hx (List.getElem?_eq_getElem hi) h.1 (fun H'' s => ?_)
  refine ⟨ys.take i, s _ _ h.2, size_lt (by simp; omega), same_set (L2.Same.trans h.1 s) hD, ?_⟩
  rw [upd_same, List.take_add_one, List.getElem?_eq_getElem hi]; rfl
theorem lc_mapZ {K : PySem.W.Frag} {a b : Addr} {xs zs : List V} {g : TG} {te : TE} {vs : List Nat} {σ : L2.St} {H1 : Hp} {D : Addr} {Qd : Hp → Prop} (ys : List V) (ha : SqL K H1 a xs) (hb : SqL K H1 b zs) (hD : H1 D = none) (hl : xs.length = ys.length) (hl2 : xs.length = zs.length) (hz : xs.length ≤ 10000)
    (hs : ∀ (i : Nat) (x z y : V) (T : Addr) (H' : Hp) (Q : VK), xs[i]? = some x → zs[i]? = some z → ys[i]? = some y → Same H1 H' → H' T = none → (∀ H'', Same (upd H' T (.tup [x, z])) H'' → Q y H'') → g (.ref T) (wipe σ vs) (upd H' T (.tup [x, z])) fun σ2 H2 => wipe σ2 vs = wipe σ vs ∧ te σ2 H2 Q)
    (hd : ∀ H', Same H1 H' → H' D = some (.lst ys) → Qd H') :
    ∃ W : Nat → Nat → Hp → Prop, (∃ m, W 0 m (upd H1 D (.lst []))) ∧ ∀ i m H, W i m H →
      ((Itz K a b).stop i H ∧ Qd H) ∨ ((Itz K a b).go i H ∧ ∃ Nx : Hp → Prop, (∀ H', Nx H' → ∃ m', m' < m ∧ W (i + 1) m' H') ∧ ∀ x H', (Itz K a b).yld i H x H' → g x (wipe σ vs) H' fun σ2 H2 => wipe σ2 vs = wipe σ vs ∧ tYes σ2 H2 fun b H3 =>
        if b = true then te σ2 H3 fun y H4 => ∃ acc, H4 D = some (.lst acc) ∧ acc.length < sizeLine ∧ Nx (upd H4 D (.lst (acc ++ [y]))) else Nx H3) := by
  refine lc_it (walk_zip (xs := xs) (ys := zs) (n := xs.length) (by omega)) (fun i H => Same H1 H ∧ H D = some (.lst (ys.take i))) ⟨same_upd hD, upd_same⟩ (fun i H _ h => ⟨L2.Same.seq h.1 ha, L2.Same.seq h.1 hb⟩) (fun i x H H' hi h y => ?_) (fun H h => hd H h.1 (by rw [h.2, List.take_of_length_le (by omega)]))
  obtain ⟨T, x', z', rfl, hT, rfl, hx, hz'⟩ := y
  have hi' : i < ys.length := by omega
  refine hs i x' z' ys[i] T H _ hx hz' (List.getElem?_eq_getElem hi') h.1 hT (fun H'' s => ?_)
  refine ⟨ys.take i, s _ _ (old_upd hT h.2), size_lt (by simp; omega), same_set (L2.Same.trans (Same.upd h.1 hT) s) hD, ?_⟩
  rw [upd_same, List.take_add_one, List.getElem?_eq_getElem hi']; rfl
/-! ### two lists of the same ints -/
theorem dp_ints {K : PySem.W.Frag} {H : Hp} : ∀ ns : List Int, DpAll K H (ns.map V.int) (ns.map PyData.int)
  | [] => .nil
  | n :: r => .cons (.int n) (dp_ints r)
theorem sh_ints (ns : List Int) : SeqAt.shaped (.list (ns.map PyData.int)) = true := PySem.W.shaped_ints ns
theorem eqv_ints (ns : List Int) : PyData.eqv (.list (ns.map PyData.int)) (.list (ns.map PyData.int)) = true := SeqAt.eqv_refl _ (SeqAt.canLay_of_shaped (sh_ints ns))
theorem op_eqLI {X : Cx} (hu : X.A.units + 64 < cLine) : OpR X (compareOp .Eq) (fun x y H Q => ∃ (p q : Addr) (ns : List Int), x = .ref p ∧ y = .ref q ∧ SqL X.K H p (ns.map V.int) ∧ SqL X.K H q (ns.map V.int) ∧ Q (.bl true) H) := by
  intro pins s σ H x y v u Q I rx ry ⟨p, q, ns, e1, e2, h1, h2, k⟩
  refine op_eqD hu pins s σ H x y v u Q I rx ry ⟨.list (ns.map PyData.int), .list (ns.map PyData.int), ?_, ?_, ?_, ?_, ?_⟩
  · rw [e1]; exact .lst h1 (dp_ints ns)
  · rw [e2]; exact .lst h2 (dp_ints ns)
  · exact sh_ints ns
  · exact sh_ints ns
  · rw [eqv_ints]; exact k
theorem op_neLI {X : Cx} (hu : X.A.units + 64 < cLine) : OpR X (compareOp .NotEq) (fun x y H Q => ∃ (p q : Addr) (ns : List Int), x = .ref p ∧ y = .ref q ∧ SqL X.K H p (ns.map V.int) ∧ SqL X.K H q (ns.map V.int) ∧ Q (.bl false) H) := by
  intro pins s σ H x y v u Q I rx ry ⟨p, q, ns, e1, e2, h1, h2, k⟩
  refine op_neD hu pins s σ H x y v u Q I rx ry ⟨.list (ns.map PyData.int), .list (ns.map PyData.int), ?_, ?_, ?_, ?_, ?_⟩
  · rw [e1]; exact .lst h1 (dp_ints ns)
  · rw [e2]; exact .lst h2 (dp_ints ns)
  · exact sh_ints ns
  · exact sh_ints ns
  · rw [eqv_ints]; exact k
/-! ### the pot -/
structure Pot (H : Hp) (a : Addr) : Prop where
  ex : ∃ x y : Int, H a = some (.lst [.int x, .int y]) ∧ 0 ≤ x ∧ 0 ≤ y ∧ y < 4294967296
theorem Pot.same {H H' : Hp} {a : Addr} (s : Same H H') (h : Pot H a) : Pot H' a := by
  obtain ⟨x, y, e, r⟩ := h
  exact ⟨x, y, s _ _ e, r⟩
theorem Pot.new {H : Hp} {a p : Addr} {o : HO} (h : Pot H a) (n : H p = none) : Pot (upd H p o) a := h.same (same_upd n)
theorem Pot.ne {H : Hp} {a p : Addr} (h : Pot H a) (n : H p = none) : p ≠ a := by
  obtain ⟨x, y, e, r⟩ := h
  exact fun z => by rw [z, e] at n; cases n
theorem mulw {i j : Int} {a b : Nat} (ha : i.natAbs < 2 ^ a) (hb : j.natAbs < 2 ^ b) (h0 : 0 < a := by decide) (h1 : 0 < b := by decide) (h : a + b ≤ 1000000 := by decide) : CMulW i j := wide_mul ha hb h0 h1 h
theorem mulw64 {i j : Int} (ha : i.natAbs < 18446744073709551616) (hb : j.natAbs < 18446744073709551616) : CMulW i j := wide_mul (a := 64) (b := 64) ha hb (by decide) (by decide) (by decide)
theorem pick_at {xs : List V} {d : Int} (h0 : 0 ≤ d) (h1 : d < xs.length) : ∃ v, atI xs d = some v ∧ v ∈ xs := by
  have hd : d.toNat < xs.length := by omega
  exact ⟨xs[d.toNat], at_of (j := d.toNat) (by omega) (List.getElem?_eq_getElem hd), List.getElem_mem hd⟩
theorem take_fold {α β : Type} {f : β → α → β} {z : β} {l : List α} {i : Nat} {x : α} (h : l[i]? = some x) : (l.take (i + 1)).foldl f z = f ((l.take i).foldl f z) x := by
  rw [List.take_add_one, h, Option.toList_some, List.foldl_append]; rfl
theorem int_get {ns : List Int} {i : Nat} {x : V} (h : (ns.map V.int)[i]? = some x) : ∃ z, x = .int z ∧ ns[i]? = some z := by
  rw [List.getElem?_map] at h
  obtain ⟨z, hz, e⟩ := Option.map_eq_some_iff.mp h
  exact ⟨z, e.symm, hz⟩
/-- called with the pot and how many: a number below that, and the pot is still one -/
def spDraw : Sp := fun vs H Q _ => ∃ (a : Addr) (n : Int), vs = [.ref a, .int n] ∧ Pot H a ∧ 0 < n ∧ n < 1073741824 ∧
  ∀ (d : Int) (H' : Hp), 0 ≤ d → d < n → Pot H' a → But a H H' → Q (.int d) H'
end Hx

set_option Elab.async false
set_option linter.all false
set_option maxRecDepth 100000
set_option maxHeartbeats 4000000
namespace Hx
open PySem PySem.Spec PyProof.Rows L2
/-! ### own rules for objects and errors -/
def kwM {α : Type} (us ws : List α) : List α := match us with | [x] => x :: ws | _ => []
theorem kw_bindsM {K : PySem.W.Frag} {x qual : Str} {st : Stmt} {f : Addr} {fd : FuncData} {ps : List Str} (F : Fun K x qual st f fd) (h0 : 0 < ps.length)
    (h : ∀ (kV doc pm : Value) (an : Option Addr) (cdv ct : Value) (u : Value) (us : List Value), us.length = ps.tail.length → bindArgs (PySem.W.fnOf x qual (defArgs st) (defBody st) (defScope st) .none kV doc pm an cdv ct) ⟨[u], ps.tail.zip us⟩ = pure (ps.zip (u :: us))) : KBinds K fd ps ps.tail kwM kwM := by
  obtain ⟨oc, od, kV, doc, pm, an, cdv, ct, osl, rfl, lk, hcd⟩ := F.ex
  refine ⟨fun s us ws _ hl => ?_, fun {vs us zs ws} r1 r2 => ?_⟩
  · match us, hl with
    | [], hl => exact absurd hl (by simp [kwM]; omega)
    | [u], hl => exact .of_eq (h kV doc pm an cdv ct u ws (by simp [kwM] at hl ⊢; omega))
    | _ :: _ :: _, hl => exact absurd hl (by simp [kwM]; omega)
  · cases r1 with
    | nil => exact .nil
    | cons a t =>
      cases t with
      | nil => exact .cons a r2
      | cons b t => exact .nil
section
variable {X : Cx} {CX : CXT} {k : Nat} {f C : Addr} {fd : FuncData} {ps ks : List Str} {sp : Sp} {E : L2.St → XK} {E1 : XK} {x m : Str} {p pos apos : Pos} {e o : Expr} {es : List Expr} {ta : TE} {t tk : TA} {kws : List Keyword} {g : List Value → List Value → List Value} {gV : List V → List V → List V}
def tMethA (C : Addr) (m : Str) (sp : Sp) (E : L2.St → XK) (ta : TE) (t : TA) : TE := fun σ H Q => ta σ H fun x H1 => ∃ a dx fs, x = .ref a ∧ H1 a = some (.ins C dx fs) ∧ fs.lookup m = none ∧ t σ H1 fun vs H2 => sp (x :: vs) H2 Q (E σ)
/-- o.m(e, ..) that may raise, within a try -/
theorem pe_methA {E : L2.St → XK} {pl : Sem Bool} (he : PE X o ta) (c : Cls X.K C) (hm : Meth X.K C m f) (F : FnOk X.prog X.w X.K X.mg X.base CX k f fd ps sp) (hr : Room k X.A) (hb : Binds X.K fd ps []) (hx : ∀ σ, PassesAt CX X σ (E σ)) (ha : PA X (e :: es) t)
    (hst : starEach (e :: es) X.env = (false, eval e X.env) :: starEach es X.env := by rfl) (hpl : (backTo pos (starEach es X.env)).any (·.1) = false := by rfl)
    (ht : eval (.Call (.Attribute o m apos) (e :: es) [] pos) X.env = (do
      let ov ← eval o X.env
      standAt apos.atName
      let (f, first) ← holding [ov] (getMethod ov m pl)
      callWith pos f first (backTo pos (starEach (e :: es) X.env)) (backToKw pos (keywordEach [] X.env))) := by rfl) :
    PE X (.Call (.Attribute o m apos) (e :: es) [] pos) (tMethA C m sp E ta t) := by
  refine ⟨fun pins s σ H Q I h => ?_⟩
  refine PySem.W.methodCall_KW (pl := pl) (thn (he.run pins s σ H _ I h) fun u s1 ⟨x, H1, I1, rx, a, dx, fs, ex, ea, l, q⟩ => ?_) ht
  subst ex
  obtain rfl : u = Value.ref a := rx
  refine getmeth_ok I1 ea c hm l ?_
  refine PySem.W.callWith_K (first := [.ref a]) (h₀ := X.base) I.ok.mod.kin hm.kp (thn (ha.run pos pins s1 σ H1 _ I1 q) fun us s2 ⟨vs, H2, I2, r, q2⟩ => ⟨I2.kIn, ?_⟩) hst hpl
  exact run_fnS (us := .ref a :: us) (vs := .ref a :: vs) F hr hb (hx σ) I2 (.cons rfl r) q2
def tMethK (C : Addr) (m : Str) (sp : Sp) (gV : List V → List V → List V) (E : XK) (ta : TE) (tk : TA) : TE := fun σ H Q => ta σ H fun x H1 => ∃ a dx fs, x = .ref a ∧ H1 a = some (.ins C dx fs) ∧ fs.lookup m = none ∧ tk σ H1 fun zs H2 => sp (gV [x] zs) H2 Q E
/-- o.m(k=e, ..) -/
theorem pe_methKA {pl : Sem Bool} (he : PE X o ta) (c : Cls X.K C) (hm : Meth X.K C m f) (F : FnOk X.prog X.w X.K X.mg X.base CX k f fd ps sp) (hr : Room k X.A) (hb : KBinds X.K fd ps ks g gV) (hx : Passes CX X E1)
    (hkw : PK X kws tk) (hall : (backToKw pos (keywordEach kws X.env)).all (·.1.isSome) = true := by rfl) (hks : (backToKw pos (keywordEach kws X.env)).filterMap (·.1) = ks := by rfl)
    (hpl : ((backTo pos (starEach [] X.env)).any (·.1) || (backToKw pos (keywordEach kws X.env)).any (·.1.isNone)) = false := by rfl)
    (ht : eval (.Call (.Attribute o m apos) [] kws pos) X.env = (do
      let ov ← eval o X.env
      standAt apos.atName
      let (f, first) ← holding [ov] (getMethod ov m pl)
      callWith pos f first (backTo pos (starEach [] X.env)) (backToKw pos (keywordEach kws X.env))) := by rfl) :
    PE X (.Call (.Attribute o m apos) [] kws pos) (tMethK C m sp gV E1 ta tk) := by
  refine ⟨fun pins s σ H Q I h => ?_⟩
  refine PySem.W.methodCall_KW (pl := pl) (thn (he.run pins s σ H _ I h) fun u s1 ⟨x, H1, I1, rx, a, dx, fs, ex, ea, l, q⟩ => ?_) ht
  subst ex
  obtain rfl : u = Value.ref a := rx
  refine getmeth_ok I1 ea c hm l ?_
  refine PySem.W.callWith_KW0 (first := [.ref a]) (h₀ := X.base) I.ok.mod.kin hm.kp hall ?_ hpl
  refine thn (hkw.run pos pins s1 σ H1 _ I1 q) fun ws s2 ⟨zs, H2, I2, rz, q2⟩ => ⟨I2.kIn, ?_⟩
  rw [hks]
  exact run_fnk (us := [.ref a]) (vs := [.ref a]) F hr hb hx I2 (.cons rfl .nil) rz q2
theorem PI.or {tg iter : Expr} {w1 w2 : TI} (h1 : PI X tg iter w1) (h2 : PI X tg iter w2) : PI X tg iter (fun σ H R => w1 σ H R ∨ w2 σ H R) := ⟨fun pins s σ H R I h => h.elim (h1.run pins s σ H R I) (h2.run pins s σ H R I)⟩
end
theorem exm_self {K : PySem.W.Frag} {S : Addr} (h1 : PySem.W.subIn K (.ref S) (.type "BaseException") = some true) (h2 : PySem.W.isClsIn K S = true) (h3 : PySem.W.typeIn K (.ref S) = some (.type "type")) (h4 : PySem.W.subIn K (.ref S) (.ref S) = some true) :
    PySem.W.exmOne K (.ref S) (.ref S) = some true := by
  have e1 : (PySem.W.subIn K (.ref S) (.type "BaseException") == some true) = true := by rw [h1] <;> rfl
  have e2 : ((PySem.W.clsIn K S).isSome && PySem.W.typeIn K (.ref S) == some (.type "type")) = true := by
    have h2' : (PySem.W.clsIn K S).isSome = true := h2
    rw [h2', h3] <;> rfl
  show (if (PySem.W.subIn K (.ref S) (.type "BaseException") == some true) = true then (if ((PySem.W.clsIn K S).isSome && PySem.W.typeIn K (.ref S) == some (.type "type")) = true then PySem.W.subIn K (.ref S) (.ref S) else none) else none) = some true
  rw [if_pos e1, if_pos e2]
  exact h4
def tStop (t : TS) : TS := fun D σ H => t { D with nx := fun σ H => Stop (D.nx σ H) } σ H
theorem ps_stop {X : Cx} {st : Stmt} {t : TS} (h : PS X st t) : PS X st (tStop t) := by
  have e : tStop t = t := by
    funext D σ H
    unfold tStop
    simp only [stop_eq]
  rw [e]
  exact h
theorem lc_mapT {K : PySem.W.Frag} {a : Addr} {xs : List V} {g : TG} {te : TE} {vs : List Nat} {σ : L2.St} {H1 : Hp} {D : Addr} {Qd : Hp → Prop} (ys : List V) (ha : SqT K H1 a xs) (hD : H1 D = none) (hl : xs.length = ys.length) (hz : xs.length ≤ 10000)
    (hs : ∀ (i : Nat) (x y : V) (H' : Hp) (Q : VK), xs[i]? = some x → ys[i]? = some y → Same H1 H' → (∀ H'', Same H' H'' → Q y H'') → g x (wipe σ vs) H' fun σ2 H2 => wipe σ2 vs = wipe σ vs ∧ te σ2 H2 Q)
    (hd : ∀ H', Same H1 H' → H' D = some (.lst ys) → Qd H') :
    ∃ W : Nat → Nat → Hp → Prop, (∃ m, W 0 m (upd H1 D (.lst []))) ∧ ∀ i m H, W i m H →
      ((Itt K a).stop i H ∧ Qd H) ∨ ((Itt K a).go i H ∧ ∃ Nx : Hp → Prop, (∀ H', Nx H' → ∃ m', m' < m ∧ W (i + 1) m' H') ∧ ∀ x H', (Itt K a).yld i H x H' → g x (wipe σ vs) H' fun σ2 H2 => wipe σ2 vs = wipe σ vs ∧ tYes σ2 H2 fun b H3 =>
        if b = true then te σ2 H3 fun y H4 => ∃ acc, H4 D = some (.lst acc) ∧ acc.length < sizeLine ∧ Nx (upd H4 D (.lst (acc ++ [y]))) else Nx H3) := by
  refine lc_tup (xs := xs) (fun i H => Same H1 H ∧ H D = some (.lst (ys.take i))) ⟨same_upd hD, upd_same⟩ (fun i H _ h => ha.elim (fun r => r.elim (fun e => .inl (.inl (h.1 _ _ e))) (fun ⟨o, e⟩ => .inl (.inr ⟨o, h.1 _ _ e⟩))) .inr) (fun i x H hx h => ?_) (fun H h => hd H h.1 (by rw [h.2, List.take_of_length_le (by omega)]))
  have hi : i < ys.length := by have := (List.getElem?_eq_some_iff.mp hx).1; omega
  refine hs i x ys[i] H _ hx (List.getElem?_eq_getElem hi) h.1 (fun H'' s => ?_)
  refine ⟨ys.take i, s _ _ h.2, size_lt (by simp; omega), same_set (L2.Same.trans h.1 s) hD, ?_⟩
  rw [upd_same, List.take_add_one, List.getElem?_eq_getElem hi]; rfl
/-! ### two things of the same data -/
def FlatD (n : Nat) (d : PyData) : Prop := d.canLay0 = true ∧ d.depth ≤ n
theorem flat_all {n : Nat} : ∀ ds : List PyData, (∀ d ∈ ds, FlatD n d) → PyData.canLayAll0 ds = true ∧ PyData.depthAll ds ≤ n
  | [], _ => by simp [PyData.canLayAll0, PyData.depthAll]
  | d :: r, h => by
    have i := flat_all r fun x hx => h x (List.mem_cons_of_mem _ hx)
    have j := h d List.mem_cons_self
    unfold FlatD at j
    simp only [PyData.canLayAll0, PyData.depthAll, j.1, i.1, Bool.and_self, true_and]
    omega
theorem flat_list {n : Nat} {ds : List PyData} (h : ∀ d ∈ ds, FlatD n d) : FlatD (n + 1) (.list ds) := by
  have i := flat_all ds h
  exact ⟨by simp only [PyData.canLay0]; exact i.1, by simp only [PyData.depth]; omega⟩
theorem flat_tup {n : Nat} {ds : List PyData} (h : ∀ d ∈ ds, FlatD n d) : FlatD (n + 1) (.tuple ds) := by
  have i := flat_all ds h
  exact ⟨by simp only [PyData.canLay0]; exact i.1, by simp only [PyData.depth]; omega⟩
theorem flat_int (n : Nat) (i : Int) : FlatD n (.int i) := ⟨by simp [PyData.canLay0], by simp [PyData.depth]⟩
theorem flat_sh {n : Nat} {d : PyData} (h : FlatD n d) (hn : n ≤ 64 := by decide) : SeqAt.shaped d = true := by
  show (PyData.canLay0 d && decide (PyData.depth d ≤ 64)) = true
  rw [Bool.and_eq_true]
  exact ⟨h.1, decide_eq_true (Nat.le_trans h.2 hn)⟩
theorem op_eqS {X : Cx} (hu : X.A.units + 64 < cLine) : OpR X (compareOp .Eq) (fun x y H Q => ∃ d, Dp X.K H x d ∧ Dp X.K H y d ∧ SeqAt.shaped d = true ∧ Q (.bl true) H) := by
  intro pins s σ H x y v u Q I rx ry ⟨d, h1, h2, hs, k⟩
  refine op_eqD hu pins s σ H x y v u Q I rx ry ⟨d, d, h1, h2, hs, hs, ?_⟩
  rw [SeqAt.eqv_refl d (SeqAt.canLay_of_shaped hs)]; exact k
theorem op_neS {X : Cx} (hu : X.A.units + 64 < cLine) : OpR X (compareOp .NotEq) (fun x y H Q => ∃ d, Dp X.K H x d ∧ Dp X.K H y d ∧ SeqAt.shaped d = true ∧ Q (.bl false) H) := by
  intro pins s σ H x y v u Q I rx ry ⟨d, h1, h2, hs, k⟩
  refine op_neD hu pins s σ H x y v u Q I rx ry ⟨d, d, h1, h2, hs, hs, ?_⟩
  rw [SeqAt.eqv_refl d (SeqAt.canLay_of_shaped hs)]; exact k
/-- the only error's __init__: self.value = value -/
def spEI (C : Addr) : Sp := fun vs H Q _ => ∃ (a : Addr) (v : V), vs = [.ref a, v] ∧ H a = some (exo a C none) ∧ ∀ dx, H dx = none → dx ≠ a → Q .non (upd (upd H dx (exd dx [("value", v)])) a (exo a C (some dx)))
theorem ei_same {H : Hp} {a dx C : Addr} {fs : List (Str × V)} {o u : HO} (ha : H a = none) (hd : upd H a o dx = none) (ne : dx ≠ a) :
    Same H (upd (del (upd (upd (upd H a o) dx u) a (exo a C (some dx))) a) dx (.xd fs)) := fun b v e => by
  have n1 : b ≠ a := ne_of_none e ha
  have n2 : b ≠ dx := by
    intro z
    rw [z] at e
    rw [upd_ne ne] at hd
    rw [hd] at e
    cases e
  rw [upd_ne n2, del_ne n1, upd_ne n1, upd_ne n2, upd_ne n1]
  exact e
end Hx

set_option Elab.async false
set_option linter.all false
set_option maxRecDepth 100000
set_option maxHeartbeats 4000000
namespace Hx
open PySem PySem.Spec PyProof.Rows L2
/-! ### promises of defs under which no repr is under way -/
/-- as FnOk, for calls around which nothing is being written out -/
structure FnG (P : Program) (w : World) (K : PySem.W.Frag) (mg : Str → Option Value) (base : Heap) (k : Nat) (f : Addr) (fd : FuncData) (ps : List Str) (sp : Sp) : Prop where
  len : ∀ vs H Q E, sp vs H Q E → vs.length = ps.length
  run : ∀ (A : Around) (outer : List Env) (s : Shared) (H : Hp) (args : Args) (us : List Value) (vs : List V) (Q : VK) (E : XK), A.guards = some [] → Room k A → Env0 P w K mg base A outer s H → BindsTo s fd args (ps.zip us) → Vals vs us → sp vs H Q E →
    codeAny (model P w) A (.call (.ref f) args) (CR CX0 outer P w H s Q E) s
theorem FnG.mono {P : Program} {w : World} {K : PySem.W.Frag} {mg : Str → Option Value} {base : Heap} {j k : Nat} {f : Addr} {fd : FuncData} {ps : List Str} {sp : Sp} (F : FnG P w K mg base j f fd ps sp) (h : j ≤ k) : FnG P w K mg base k f fd ps sp :=
  ⟨F.len, fun A o s H a us vs Q E g r => F.run A o s H a us vs Q E g (r.mono h)⟩
theorem fnG {P : Program} {w : World} {K : PySem.W.Frag} {mg : Str → Option Value} {base : Heap} {x qual : Str} {st : Stmt} {f : Addr} {fd : FuncData} {N ps : List Str} {k : Nat} {sp : Sp} (F : Fun K x qual st f fd) (S : FnScope N ps (defScope st)) (len : ∀ vs H Q E, sp vs H Q E → vs.length = ps.length)
    (hbody : ∀ (cdv : Value) (A : Around) (outer : List Env) (s : Shared) (H : Hp) (vs : List V) (Q : VK) (E : XK), Room k (A.deeper (envOfC qual (defScope st) s.heap.objs.size f cdv)) → (A.deeper (envOfC qual (defScope st) s.heap.objs.size f cdv)).guards = some [] → sp vs H Q E →
      ∃ t, PSs (cxOf CX0 P w K mg base N qual (defScope st) f cdv A outer s H E).nox (defBody st) t ∧ t { nx := fun _ H' => Q .non H', rt := Q } (start N vs) H) : FnG P w K mg base (k + 1) f fd ps sp := by
  obtain ⟨oc, od, kV, doc, pm, an, cdv, ct, osl, rfl, lk, hcd⟩ := F.ex
  constructor
  · exact len
  intro A outer s H args us vs Q E hg hr e0 hb r hsp
  have old := fun b o e => (e0.bs b o e).1
  have KX := e0.mod.kin.keeps old
  have lim := e0.mod.nolimit.keeps old
  apply codeAny_call_function hr.depth (KX _ _ lk) rfl S.co S.gen rfl (PySem.W.codeRec_of KX hcd)
  apply hb
  apply wpAny_newFunctionEnv_cells S.kind
  · intro y hy
    exact (S.par y.1 (List.of_mem_zip hy).1).imp id fun q => ⟨q, PySem.W.cellsFrom_some _ _ _ (.inl q)⟩
  intro env he s1 x
  subst he
  refine ⟨lim.keeps x.toInCall.keep, codeAny_func ?_⟩
  obtain ⟨t, ht, hq⟩ := hbody cdv A outer s H vs Q E (hr.deeper _) hg hsp
  have I := inv_start (CX := CX0) (E := E) (base := base) S hr.hd e0 (len _ _ _ _ hsp) r x
  refine wpAny_mono (ht.nox.run [] s1 _ H _ I hq) (fun fl s' hs => ?_) fun e s' hs => hs
  match fl, hs with
  | .ret u, ⟨v, _, H', J, rv, q⟩ => exact ⟨v, H', J.os, J.bare, J.base, J.hok, rv, q⟩
  | .next, ⟨_, H', J, q⟩ => exact ⟨V.non, H', J.os, J.bare, J.base, J.hok, rfl, q⟩
  | .brk, ⟨_, _, _, q⟩ => exact q.elim
  | .cont, ⟨_, _, _, q⟩ => exact q.elim
section
variable {X : Cx} {k : Nat} {f : Addr} {fd : FuncData} {ps : List Str} {sp : Sp} {E : XK} {x : Str} {p pos : Pos} {e : Expr} {es : List Expr} {t : TA}
/-- f(e, ..) of such a def -/
theorem pe_callG (hu : X.A.guards = some []) (F : FnG X.prog X.w X.K X.mg X.base k f fd ps sp) (hr : Room k X.A) (hg : Gl X x) (hm : X.mg x = some (.ref f)) (hk : PySem.W.keepIn X.K (.ref f) = true) (hb : Binds X.K fd ps [])
    (ha : PA X (e :: es) t) (hdb : (x == ("__debug__" : Str)) = false := by decide) (he : starEach (e :: es) X.env = (false, eval e X.env) :: starEach es X.env := by rfl) (hpl : (backTo pos (starEach es X.env)).any (·.1) = false := by rfl) :
    PE X (.Call (.Name x p) (e :: es) [] pos) (tCall sp [] E t) := by
  constructor
  intro pins s σ H Q I h
  apply wpAny_Call_Name_kw (ld_glob I hg hm ?_ hdb)
  refine PySem.W.callWith_K (h₀ := X.base) I.ok.mod.kin hk (thn (ha.run pos pins s σ H _ I h) fun us s1 ⟨vs, H1, I1, r, q⟩ => ⟨I1.kIn, ?_⟩) he hpl
  have q : sp (vs ++ []) H1 Q E := q
  rw [List.append_nil] at q
  have hl : us.length = ps.length := by rw [← r.length]; exact F.len _ _ _ _ q
  have b := hb s1 us I1.kIn (by rw [List.append_nil]; exact hl)
  rw [List.append_nil] at b
  refine wpAny_call (codeAny_mono (F.run X.A X.stack s1 H1 ⟨us, []⟩ us vs Q E hu hr I1.env0 b r q) fun r s' hq => ?_)
  match r, hq with
  | .ok (.ret u), hq => exact I1.after hq
  | .error e, hq => exact False.elim hq
  | .ok .next, hq => exact False.elim hq
  | .ok .brk, hq => exact False.elim hq
  | .ok .cont, hq => exact False.elim hq
/-- repr of a list, a tuple, of things that show -/
theorem call_reprG (hg : X.A.guards = some []) (hr : Room 0 X.A) : CallR X (.builtin "repr") (fun xs H Q => ∃ (a : Addr) (d : PyData), xs = [.ref a] ∧ Dp X.K H (.ref a) d ∧ d.showable = true ∧ d.hasDict = false ∧ d.depth ≤ 64 ∧ d.shown.length ≤ sizeLine ∧ Q (.str d.shown) H) := by
  intro pins s σ H xs us Q I r h
  obtain ⟨a, d, rfl, hd, hs, hn, hp, hz, q⟩ := h
  rw [Vals.ref1 r]
  obtain ⟨as, hR⟩ := Dp.reads I d _ (.ref a) hd rfl
  have hu := hr.un
  exact repr_of_reads' hR hs (fun z => by rw [hn] at z; cases z) hg (by omega) (fun _ _ e => e) (fun h' u tk hk => ⟨.str _, H, I.kept hk, ⟨_, rfl⟩, q⟩) hz
end
theorem call_repr_bl {X : Cx} : CallR X (.builtin "repr") (fun xs H Q => ∃ b : Bool, xs = [.bl b] ∧ Q (.str (if b then "True" else "False")) H) := by
  intro pins s σ H xs us Q I r h
  obtain ⟨b, rfl, q⟩ := h
  cases r with
  | cons ru rn =>
    cases rn
    cases ru
    exact PySem.P.repr_of_bool ⟨.str _, H, I.tok _, ⟨_, rfl⟩, q⟩
/-! ### the head's call of such a law -/
theorem law_callG {P : Program} {w : World} {K : PySem.W.Frag} {mg mb : Str → Option Value} {k : Nat} {fa a : Addr} {fd : FuncData} {x : Str} {sp : Sp} {s : Shared} {vs : List Value} {ns : List Int}
    (KX : K.In s.heap) (hns : s.heap.Ns mainGlobals mg) (hb : s.heap.Ns builtinsNs mb) (hbb : ∀ x : Str, x ≠ "__name__" → mb x = bootBuiltins x) (hlim : s.heap.NoLimit) (hg : s.gens = #[])
    (ha : s.heap.get? a = some { cls := .type "list", data := .seq vs.toArray }) (hi : IntsAre vs ns) (hl : ns.length ≤ sizeLine) (hr : Room k callerA)
    (F : ∀ base : Heap, K.In base → base.Ns mainGlobals mg → FnG P w K mg base k fa fd [x] sp) (hbind : ∀ (s : Shared) (u : Value), BindsTo s fd ⟨[u], []⟩ [(x, u)])
    (hsp : ∀ H : Hp, Only H → SqL K H a (ns.map V.int) → sp [.ref a] H (fun v _ => v = .bl true) fun _ _ _ => False) :
    codeAny (model P w) callerA (.call (.ref fa) ⟨[.ref a], []⟩) (fun r s' => r = .ok (.ret (.bool true)) ∧ OldK s.heap s'.heap ∧ s'.os = s.os ∧ AllBare s'.gens) s := by
  let fz : HO := .frz { cls := .type "list", data := .seq vs.toArray } (.lst (ns.map V.int))
  let H : Hp := fun b => if b = a ∧ K.lookup a = none then some fz else none
  have rv := vals_ints hi
  have hH : ∀ {b : Addr} {u : HO}, H b = some u → b = a ∧ K.lookup a = none ∧ u = fz := fun {b u} z => by
    by_cases q : b = a ∧ K.lookup a = none
    · have z' := (if_pos q).symm.trans z
      exact ⟨q.1, q.2, (Option.some.inj z').symm⟩
    · have z' := (if_neg q).symm.trans z
      cases z'
  have hO : Only H := fun b => by
    by_cases q : b = a ∧ K.lookup a = none
    · exact .inr ⟨_, _, if_pos q⟩
    · exact .inl (if_neg q)
  have hok : HOk P w H s.heap := fun b u z => by
    obtain ⟨rfl, _, rfl⟩ := hH z
    exact ⟨ha, by rw [List.length_map]; exact hl, vs, _, rv, ha⟩
  have hS : SqL K H a (ns.map V.int) := by
    cases hk : K.lookup a with
    | some o =>
      have e := KX a o hk
      rw [ha] at e
      cases e
      exact .inr ⟨_, vs.toArray, _, hk, rfl, rfl, rfl, by rw [List.size_toArray, hi.length]; exact hl, by simpa using rv⟩
    | none => exact .inl (.inr ⟨_, if_pos ⟨rfl, hk⟩⟩)
  have hid : ∀ {b : Addr} {o : Obj}, s.heap.get? b = some o → (b = a → K.lookup a = none → False) → (hidT s.heap H).get? b = some o := fun {b o} e n => hidT_get e (by
    cases q : H b with
    | none => rfl
    | some u => exact (n (hH q).1 (hH q).2.1).elim)
  have nsK : ∀ {b : Addr} {m : Str → Option Value}, s.heap.Ns b m → (hidT s.heap H).Ns b m := fun {b m} ⟨o, es, ep, e, d, r⟩ => ⟨o, es, ep, hid e (fun z _ => by
    subst z
    rw [ha] at e
    cases e
    have d' : Data.seq vs.toArray _ = Data.dict es ep := d
    cases d'), d, r⟩
  have hKb : K.In (hidT s.heap H) := fun b o e => hid (KX b o e) fun z n => by
    subst z
    rw [n] at e
    cases e
  have e0 : Env0 P w K mg (hidT s.heap H) callerA [] s H := ⟨rfl, ⟨hKb, nsK hns, ⟨mb, nsK hb, hbb⟩, hlim.elim fun mc h => ⟨mc, nsK h.1, h.2⟩⟩, fun b o e => of_hidT e, Nat.le_of_eq (hidT_size _ _), trivial, fun b hb => absurd hb List.not_mem_nil, hok, .of_eq hg⟩
  refine codeAny_mono ((F _ hKb (nsK hns)).run callerA [] s H ⟨[.ref a], []⟩ [.ref a] [.ref a] _ _ rfl hr e0 (hbind s (.ref a)) (.cons rfl .nil) (hsp H hO hS)) fun r s' h => ?_
  match r, h with
  | .error e, h => exact h.elim
  | .ok .next, h => exact False.elim h
  | .ok .brk, h => exact False.elim h
  | .ok .cont, h => exact False.elim h
  | .ok (.ret u), ⟨v, H', os, bare, un, hok', r', q⟩ =>
    obtain rfl : v = .bl true := q
    obtain rfl : u = Value.bool true := r'
    refine ⟨rfl, OldK.of_keep fun b o e => ?_, os, bare⟩
    cases q : H b with
    | none => exact un.keep b o e q (fun z => List.not_mem_nil z) List.not_mem_nil
    | some u =>
      obtain ⟨rfl, _, rfl⟩ := hH q
      obtain ⟨e1, _⟩ := hok _ _ q
      obtain ⟨e2, _⟩ := hok' _ _ (un.frzs _ _ _ q)
      rw [e] at e1
      cases e1
      exact e2
theorem walk_ofG {l : PySem.W.OpenLaw} {n k : Nat} {q : Program} {loose : List Str} {XP : (Str → Option Value) → Heap → Prop} {YP : World → Heap → Prop} {d : DefRec} {K : Params → PySem.W.Frag} {sp : World → Sp} {x : Str}
    (hn : l.most = some n) (hn2 : n ≤ sizeLine) (hdf : d.params.defaults = []) (hr : Room k callerA)
    (hY : ∀ (w : World) (h : Heap), YP w h → (K w.params).In h)
    (F : ∀ (w : World) (mg : Str → Option Value) (fa : Addr) (h : Heap), (K w.params).In h → h.Ns mainGlobals mg → mg d.name = some (.ref fa) →
      ∃ fd : FuncData, (∀ (s : Shared) (u : Value), BindsTo s fd ⟨[u], []⟩ [(x, u)]) ∧ ∀ base : Heap, (K w.params).In base → base.Ns mainGlobals mg → FnG l.prog w (K w.params) mg base k fa fd [x] (sp w))
    (hsp : ∀ (w : World) (H : Hp) (a : Addr) (ns : List Int), ns.length ≤ n → Only H → SqL (K w.params) H a (ns.map V.int) → sp w [.ref a] H (fun v _ => v = .bl true) fun _ _ _ => False) :
    PySem.W.WalkO q loose XP YP l.row.toRowW d [] (fun f vs => PySem.call f vs) := by
  apply Att.attach_call hn hdf
  intro w s₀ s₁ mg mb fa o pm cd doc a vs ns G Y ho hd hcd hmg hobj hints hlen hg
  obtain ⟨fd, hb, hF⟩ := F w mg fa _ (hY w _ Y) G.T.g hmg
  exact law_callG (hY w _ Y) G.T.g G.T.b G.T.builtins G.T.nolimit hg hobj hints (Nat.le_trans hlen hn2) hr hF hb fun H hO hS => hsp w H a ns hlen hO hS
end Hx

set_option Elab.async false
set_option linter.all false
set_option maxRecDepth 100000
set_option maxHeartbeats 4000000
namespace Hx
open PySem PySem.Spec PyProof.Rows L2
/-- x == y by the class's own ==, whatever it answers -/
theorem op_eqOwn {X : Cx} {n : Nat} {C f : Addr} {fd : FuncData} {ps : List Str} {sp : Sp} (F : FnOk X.prog X.w X.K X.mg X.base CX0 n f fd ps sp) (hr : Room n X.A)
    (hs : PySem.W.findIn X.K (.ref C) "__eq__" = some (some (.ref f))) (hf : PySem.W.isFn X.K (.ref f) = true) (hb : Binds X.K fd ps []) :
    OpR X (compareOp .Eq) (fun x y H Q => ∃ a b dx dy fs gs, x = .ref a ∧ y = .ref b ∧ H a = some (.ins C dx fs) ∧ H b = some (.ins C dy gs) ∧ sp [.ref a, .ref b] H (fun v H' => ∃ c, v = .bl c ∧ Q (.bl c) H') (fun _ _ _ => False)) := by
  intro pins s σ H x y v u Q I rx ry h
  obtain ⟨a, b, dx, dy, fs, gs, rfl, rfl, ha, hb', hsp⟩ := h
  cases rx
  cases ry
  obtain ⟨mA, J, _⟩ := ins_get I.hok ha
  obtain ⟨mB, J', _⟩ := ins_get I.hok hb'
  obtain ⟨od, J, _⟩ := J.look
  obtain ⟨od', J', _⟩ := J'.look
  obtain ⟨m, hF⟩ := I.fr
  have hu := hr.un
  refine PySem.W.cmp_K (op := .Eq) (tb := .ref C) (by omega) hF I.ok.mod.kin J J'.type (by simp [PySem.W.notFirst]) hs hf ?_
  have hl := F.len _ _ _ _ hsp
  have r2 : Vals [V.ref a, V.ref b] [Value.ref a, Value.ref b] := .cons rfl (.cons rfl .nil)
  have hB : BindsTo s fd ⟨[.ref a, .ref b], []⟩ (ps.zip [.ref a, .ref b]) := by
    have := hb s [.ref a, .ref b] I.kIn (by simpa using hl)
    simpa using this
  refine wpAny_call (codeAny_mono (F.run X.A X.stack s H ⟨[.ref a, .ref b], []⟩ [.ref a, .ref b] [.ref a, .ref b] _ _ hr I.env0 hB r2 hsp) fun r s' hq => ?_)
  match r, hq with
  | .ok (.ret w), hq =>
    obtain ⟨z, H', I', rz, c, rfl, q⟩ := I.after hq
    cases rz
    exact ⟨.bl c, H', I', rfl, q⟩
  | .error e, hq => exact False.elim hq
  | .ok .next, hq => exact False.elim hq
  | .ok .brk, hq => exact False.elim hq
  | .ok .cont, hq => exact False.elim hq
/-! ### how long the text of whole numbers is -/
theorem text_le : ∀ (ts : List Str) (k : Nat) (acc : Str), (textFrom k acc ts).length ≤ acc.length + piled ts
  | [], _, acc => Nat.le_add_right _ _
  | t :: r, k, acc => by
    have ih := text_le r (k + 1) (acc ++ (if k > 0 then ", " else "" : String) ++ t)
    have e : (acc ++ (if k > 0 then ", " else "" : String) ++ t).length ≤ acc.length + 2 + t.length := by
      rw [strLen_append, strLen_append]
      split
      · exact Nat.le_refl _
      · exact Nat.add_le_add_right (Nat.add_le_add_left (Nat.zero_le 2) _) _
    show (textFrom (k + 1) _ r).length ≤ _
    rw [piled_cons]; omega
theorem piled_words : ∀ ns : List Int, (∀ n ∈ ns, 0 ≤ n ∧ n < 10 ^ 20) → piled (PyData.shownAll (ns.map PyData.int)) ≤ 22 * ns.length
  | [], _ => Nat.le_refl _
  | n :: r, h => by
    have i := piled_words r fun x hx => h x (List.mem_cons_of_mem _ hx)
    have j := toString_length_le (h n List.mem_cons_self).1 (by decide : 0 < 20) (h n List.mem_cons_self).2
    rw [List.map_cons, PyData.shownAll, piled_cons, PyData.shown, List.length_cons]
    omega
theorem words_dict : ∀ ns : List Int, PyData.hasDictAll (ns.map PyData.int) = false
  | [] => rfl
  | n :: r => by rw [List.map_cons, PyData.hasDictAll, PyData.hasDict, words_dict r] <;> rfl
theorem log_small {n : Int} (h : 0 ≤ n ∧ n < 10 ^ 20) : n.natAbs.log2 < 1920 := by
  by_cases z : n.natAbs = 0
  · rw [z]; decide
  · refine Nat.lt_trans (m := 67) ?_ (by decide)
    rw [Nat.log2_lt z]
    omega
theorem words_show : ∀ ns : List Int, (∀ n ∈ ns, 0 ≤ n ∧ n < 10 ^ 20) → PyData.showableAll (ns.map PyData.int) = true
  | [], _ => rfl
  | n :: r, h => by
    rw [List.map_cons, PyData.showableAll, PyData.showable, words_show r fun x hx => h x (List.mem_cons_of_mem _ hx), decide_eq_true (log_small (h n List.mem_cons_self))] <;> rfl
theorem words_depth : ∀ ns : List Int, PyData.depthAll (ns.map PyData.int) = 0
  | [] => by simp [PyData.depthAll]
  | n :: r => by simp [PyData.depthAll, PyData.depth, words_depth r]
/-- a list of words: all that repr asks -/
theorem shown_words {ns : List Int} (h : ∀ n ∈ ns, 0 ≤ n ∧ n < 10 ^ 20) (hl : ns.length ≤ 400) : (PyData.list (ns.map PyData.int)).showable = true ∧ (PyData.list (ns.map PyData.int)).hasDict = false ∧ (PyData.list (ns.map PyData.int)).depth ≤ 64 ∧ (PyData.list (ns.map PyData.int)).shown.length ≤ sizeLine := by
  refine ⟨by rw [PyData.showable]; exact words_show ns h, by rw [PyData.hasDict]; exact words_dict ns, by rw [PyData.depth, words_depth]; decide, ?_⟩
  rw [PyData.shown]
  have a := text_le (PyData.shownAll (ns.map PyData.int)) 0 "["
  have b := piled_words ns h
  show (textFrom 0 "[" _ ++ "]").length ≤ _
  rw [strLen_append, sizeLine_eq]
  have e : (("[" : String) : Str).length = 1 := rfl
  have e2 : (("]" : String) : Str).length = 1 := rfl
  rw [e] at a
  rw [e2]
  omega
/-! ### o.m(b=.., a=..) of two, in the other sequence -/
def kwR {α : Type} (us ws : List α) : List α := match us, ws with | [x], [b, a] => [x, a, b] | _, _ => []
theorem kw_bindsR {K : PySem.W.Frag} {x qual : Str} {st : Stmt} {f : Addr} {fd : FuncData} {ps : List Str} {p0 p1 p2 : Str} (F : Fun K x qual st f fd) (hp : ps = [p0, p1, p2])
    (h : ∀ (kV doc pm : Value) (an : Option Addr) (cdv ct : Value) (u a b : Value), bindArgs (PySem.W.fnOf x qual (defArgs st) (defBody st) (defScope st) .none kV doc pm an cdv ct) ⟨[u], [(p2, b), (p1, a)]⟩ = pure [(p0, u), (p1, a), (p2, b)]) : KBinds K fd ps [p2, p1] kwR kwR := by
  obtain ⟨oc, od, kV, doc, pm, an, cdv, ct, osl, rfl, lk, hcd⟩ := F.ex
  subst hp
  refine ⟨fun s us ws _ hl => ?_, fun {vs us zs ws} r1 r2 => ?_⟩
  · match us, ws, hl with
    | [u], [b, a], _ => exact .of_eq (h kV doc pm an cdv ct u a b)
    | [], _, hl => simp [kwR] at hl
    | [_], [], hl => simp [kwR] at hl
    | [_], [_], hl => simp [kwR] at hl
    | [_], _ :: _ :: _ :: _, hl => simp [kwR] at hl
    | _ :: _ :: _, _, hl => simp [kwR] at hl
  · cases r1 with
    | nil => exact .nil
    | cons a t =>
      cases t with
      | cons b t => exact .nil
      | nil =>
        cases r2 with
        | nil => exact .nil
        | cons b r2 =>
          cases r2 with
          | nil => exact .nil
          | cons c r2 =>
            cases r2 with
            | nil => exact .cons a (.cons c (.cons b .nil))
            | cons _ _ => exact .nil
/-! ### a list of ints beside the empty one -/
theorem eqv_nil (ns : List Int) : PyData.eqv (.list (ns.map PyData.int)) (.list []) = ns.isEmpty := by
  cases ns with
  | nil => exact eqv_ints []
  | cons a r => simp [PyData.eqv, PyData.eqvAll]
theorem op_neNil {X : Cx} (hu : X.A.units + 64 < cLine) : OpR X (compareOp .NotEq) (fun x y H Q => ∃ (p q : Addr) (ns : List Int), x = .ref p ∧ y = .ref q ∧ SqL X.K H p (ns.map V.int) ∧ SqL X.K H q [] ∧ Q (.bl (!ns.isEmpty)) H) := by
  intro pins s σ H x y v u Q I rx ry ⟨p, q, ns, e1, e2, h1, h2, k⟩
  refine op_neD hu pins s σ H x y v u Q I rx ry ⟨.list (ns.map PyData.int), .list [], ?_, ?_, ?_, ?_, ?_⟩
  · rw [e1]; exact .lst h1 (dp_ints ns)
  · rw [e2]; exact .lst h2 .nil
  · exact sh_ints ns
  · exact sh_ints []
  · rw [eqv_nil]; exact k
end Hx

set_option Elab.async false
set_option linter.all false
set_option maxRecDepth 100000
set_option maxHeartbeats 4000000
namespace Hx
open PySem PySem.Spec PyProof.Rows L2
/-! ### lists of pairs of ints; things of the same data in a grown heap -/
def rowD (r : Int × Int) : PyData := .tuple [.int r.1, .int r.2]
def rowsD (rs : List (Int × Int)) : PyData := .list (rs.map rowD)
theorem dp_rows {K : PySem.W.Frag} {H : Hp} : ∀ (ts : List Addr) (rs : List (Int × Int)), ts.length = rs.length → (∀ (i : Nat) (t : Addr) (r : Int × Int), ts[i]? = some t → rs[i]? = some r → H t = some (.tup [.int r.1, .int r.2])) → DpAll K H (ts.map V.ref) (rs.map rowD)
  | [], [], _, _ => .nil
  | t :: ts, r :: rs, hl, h => .cons (.tup (SqT.of (h 0 t r rfl rfl)) (.cons (.int _) (.cons (.int _) .nil))) (dp_rows ts rs (by simpa using hl) fun i t' r' h1 h2 => h (i + 1) t' r' (by simpa using h1) (by simpa using h2))
  | [], _ :: _, hl, _ => by simp at hl
  | _ :: _, [], hl, _ => by simp at hl
theorem rows_sh (rs : List (Int × Int)) : SeqAt.shaped (rowsD rs) = true := flat_sh (n := 2) (flat_list (n := 1) fun d hd => by
  obtain ⟨r, _, rfl⟩ := List.mem_map.mp hd
  exact flat_tup (n := 0) fun d hd => by
    simp at hd
    rcases hd with rfl | rfl <;> exact flat_int 0 _)
theorem sqt_same {K : PySem.W.Frag} {H H' : Hp} {a : Addr} {xs : List V} (s : Same H H') (h : SqT K H a xs) : SqT K H' a xs := h.elim (fun r => r.elim (fun e => .inl (.inl (s _ _ e))) (fun ⟨o, e⟩ => .inl (.inr ⟨o, s _ _ e⟩))) .inr
mutual
theorem dp_same {K : PySem.W.Frag} {H H' : Hp} (s : Same H H') : ∀ (d : PyData) (v : V), Dp K H v d → Dp K H' v d
  | .none, _, h => by cases h; exact .non
  | .bool b, _, h => by cases h; exact .bl b
  | .int i, _, h => by cases h; exact .int i
  | .str x, _, h => by cases h; exact .str x
  | .list ds, _, h => by cases h with | lst h1 h2 => exact .lst (L2.Same.seq s h1) (dpA_same s ds _ h2)
  | .tuple ds, _, h => by cases h with | tup h1 h2 => exact .tup (sqt_same s h1) (dpA_same s ds _ h2)
  | .dict _, _, h => by cases h
theorem dpA_same {K : PySem.W.Frag} {H H' : Hp} (s : Same H H') : ∀ (ds : List PyData) (vs : List V), DpAll K H vs ds → DpAll K H' vs ds
  | [], _, h => by cases h; exact .nil
  | d :: ds, _, h => by cases h with | cons h1 h2 => exact .cons (dp_same s d _ h1) (dpA_same s ds _ h2)
end
end Hx

set_option Elab.async false
set_option linter.all false
set_option maxRecDepth 100000
set_option maxHeartbeats 4000000
namespace Hx
open PySem PySem.Spec PyProof.Rows L2
/-! ### keywords in any sequence: n values by place, then those of the permutation -/
def kwP {α : Type} (n : Nat) (perm : List Nat) (us ws : List α) : List α := if us.length = n ∧ ws.length = perm.length then us ++ perm.filterMap (fun i => ws[i]?) else []
theorem vals_append {a b : List V} {x y : List Value} (h : Vals a x) (k : Vals b y) : Vals (a ++ b) (x ++ y) := by
  induction h with
  | nil => exact k
  | cons r t ih => exact .cons r ih
theorem vals_get {a : List V} {x : List Value} (h : Vals a x) : ∀ i : Nat, (∃ v u, a[i]? = some v ∧ x[i]? = some u ∧ RelV v u) ∨ (a[i]? = none ∧ x[i]? = none) := by
  induction h with
  | nil => exact fun i => .inr ⟨by simp, by simp⟩
  | cons r t ih =>
    intro i
    cases i with
    | zero => exact .inl ⟨_, _, rfl, rfl, r⟩
    | succ j => simpa using ih j
theorem vals_perm {a : List V} {x : List Value} (h : Vals a x) : ∀ perm : List Nat, Vals (perm.filterMap (fun i => a[i]?)) (perm.filterMap (fun i => x[i]?))
  | [] => .nil
  | i :: r => by
    have t := vals_perm h r
    rcases vals_get h i with ⟨v, u, e1, e2, q⟩ | ⟨e1, e2⟩
    · rw [List.filterMap_cons, List.filterMap_cons, e1, e2]; exact .cons q t
    · rw [List.filterMap_cons, List.filterMap_cons, e1, e2]; exact t
theorem vals_kwP {n : Nat} {perm : List Nat} {vs zs : List V} {us ws : List Value} (h : Vals vs us) (k : Vals zs ws) : Vals (kwP n perm vs zs) (kwP n perm us ws) := by
  unfold kwP
  rw [h.length, k.length]
  split
  · exact vals_append h (vals_perm k perm)
  · exact .nil
theorem kw_bindsP {K : PySem.W.Frag} {x qual : Str} {st : Stmt} {f : Addr} {fd : FuncData} {ps ks : List Str} {n : Nat} {perm : List Nat} (F : Fun K x qual st f fd) (h0 : 0 < ps.length)
    (h : ∀ (kV doc pm : Value) (an : Option Addr) (cdv ct : Value) (us ws : List Value), us.length = n → ws.length = perm.length → bindArgs (PySem.W.fnOf x qual (defArgs st) (defBody st) (defScope st) .none kV doc pm an cdv ct) ⟨us, ks.zip ws⟩ = pure (ps.zip (kwP n perm us ws))) : KBinds K fd ps ks (kwP n perm) (kwP n perm) := by
  obtain ⟨oc, od, kV, doc, pm, an, cdv, ct, osl, rfl, lk, hcd⟩ := F.ex
  refine ⟨fun s us ws _ hl => ?_, fun r1 r2 => vals_kwP r1 r2⟩
  by_cases q : us.length = n ∧ ws.length = perm.length
  · exact .of_eq (h kV doc pm an cdv ct us ws q.1 q.2)
  · unfold kwP at hl; rw [if_neg q] at hl; simp at hl; omega
theorem kw_bindsN {K : PySem.W.Frag} {x qual : Str} {st : Stmt} {f : Addr} {fd : FuncData} {ps ks : List Str} {n : Nat} {perm : List Nat} (F : Fun K x qual st f fd) (h0 : ks.length = perm.length)
    (h : ∀ (kV doc pm : Value) (an : Option Addr) (cdv ct : Value) (us ws : List Value), us.length = n → ws.length = perm.length → bindArgs (PySem.W.fnOf x qual (defArgs st) (defBody st) (defScope st) .none kV doc pm an cdv ct) ⟨us, ks.zip ws⟩ = pure (ps.zip (kwP n perm us ws))) : KBn K fd ps n ks (kwP n perm) (kwP n perm) := by
  obtain ⟨oc, od, kV, doc, pm, an, cdv, ct, osl, rfl, lk, hcd⟩ := F.ex
  exact ⟨fun s us ws _ l1 l2 => .of_eq (h kV doc pm an cdv ct us ws l1 (l2.trans h0)), fun r1 r2 => vals_kwP r1 r2⟩
/-! ### an own == beside a list -/
theorem op_eqOwnL {X : Cx} {n : Nat} {C f : Addr} {fd : FuncData} {ps : List Str} {sp : Sp} (F : FnOk X.prog X.w X.K X.mg X.base CX0 n f fd ps sp) (hr : Room n X.A)
    (hs : PySem.W.findIn X.K (.ref C) "__eq__" = some (some (.ref f))) (hf : PySem.W.isFn X.K (.ref f) = true) (hb : Binds X.K fd ps []) (hsl : PySem.W.subIn X.K (.type "list") (.ref C) = some false) :
    OpR X (compareOp .Eq) (fun x y H Q => ∃ a b dx fs xs, x = .ref a ∧ y = .ref b ∧ H a = some (.ins C dx fs) ∧ H b = some (.lst xs) ∧ sp [.ref a, .ref b] H (fun v H' => ∃ c, v = .bl c ∧ Q (.bl c) H') (fun _ _ _ => False)) := by
  intro pins s σ H x y v u Q I rx ry h
  obtain ⟨a, b, dx, fs, xs, rfl, rfl, ha, hb', hsp⟩ := h
  cases rx
  cases ry
  obtain ⟨mA, J, _⟩ := ins_get I.hok ha
  obtain ⟨od, J, _⟩ := J.look
  obtain ⟨_, _, nn, _, h1⟩ := (show ObjOk X.prog X.w H s.heap b (.lst xs) from I.hok b _ hb')
  obtain ⟨m, hF⟩ := I.fr
  have hu := hr.un
  refine PySem.W.cmp_K (op := .Eq) (tb := .type "list") (by omega) hF I.ok.mod.kin J (fun A Q E s k q => wpAny_typeOf_ref (k _ _ h1) q) (by simp [PySem.W.notFirst, hsl]) hs hf ?_
  have hl := F.len _ _ _ _ hsp
  have r2 : Vals [V.ref a, V.ref b] [Value.ref a, Value.ref b] := .cons rfl (.cons rfl .nil)
  have hB : BindsTo s fd ⟨[.ref a, .ref b], []⟩ (ps.zip [.ref a, .ref b]) := by
    have := hb s [.ref a, .ref b] I.kIn (by simpa using hl)
    simpa using this
  refine wpAny_call (codeAny_mono (F.run X.A X.stack s H ⟨[.ref a, .ref b], []⟩ [.ref a, .ref b] [.ref a, .ref b] _ _ hr I.env0 hB r2 hsp) fun r s' hq => ?_)
  match r, hq with
  | .ok (.ret w), hq =>
    obtain ⟨z, H', I', rz, c, rfl, q⟩ := I.after hq
    cases rz
    exact ⟨.bl c, H', I', rfl, q⟩
  | .error e, hq => exact False.elim hq
  | .ok .next, hq => exact False.elim hq
  | .ok .brk, hq => exact False.elim hq
  | .ok .cont, hq => exact False.elim hq
theorem kit_not {K : PySem.W.Frag} {C : Addr} (h1 : PySem.W.isClsIn K C = true) (h2 : PySem.W.typeIn K (.ref C) = some (.type "type")) (h3 : PySem.W.subIn K (.type "list") (.ref C) = some false) : PySem.W.kitOne K (.type "list") (.ref C) = some false := by
  have e : ((PySem.W.clsIn K C).isSome && PySem.W.typeIn K (.ref C) == some (.type "type")) = true := by
    have h1' : (PySem.W.clsIn K C).isSome = true := h1
    rw [h1', h2] <;> rfl
  show (if ((Value.type "list" == .ref C) = true) then some true else (if ((PySem.W.clsIn K C).isSome && PySem.W.typeIn K (.ref C) == some (.type "type")) = true then PySem.W.subIn K (.type "list") (.ref C) else none)) = some false
  rw [if_neg (by intro z; cases z), if_pos e]
  exact h3
/-! ### a comprehension that sifts -/
theorem lc_filt {α : Type} {K : PySem.W.Frag} {a : Addr} {g : TG} {tt : TT} {te : TE} {vs : List Nat} {σ : L2.St} {H1 : Hp} {D : Addr} {Qd : Hp → Prop} (zs : List α) (f : α → V) (t : α → Bool) (ha : SqL K H1 a (zs.map f)) (hD : H1 D = none) (hz : zs.length ≤ 10000)
    (hs : ∀ (i : Nat) (z : α) (H' : Hp) (Qn : Hp → Prop) (Qy : VK), zs[i]? = some z → Same H1 H' → (t z = false → ∀ H'', Same H' H'' → Qn H'') → (t z = true → ∀ H'', Same H' H'' → Qy (f z) H'') → g (f z) (wipe σ vs) H' fun σ2 H2 => wipe σ2 vs = wipe σ vs ∧ tt σ2 H2 fun b H3 => if b = true then te σ2 H3 Qy else Qn H3)
    (hd : ∀ H', Same H1 H' → H' D = some (.lst ((zs.filter t).map f)) → Qd H') :
    ∃ W : Nat → Nat → Hp → Prop, (∃ m, W 0 m (upd H1 D (.lst []))) ∧ ∀ i m H, W i m H →
      ((Itl K a).stop i H ∧ Qd H) ∨ ((Itl K a).go i H ∧ ∃ Nx : Hp → Prop, (∀ H', Nx H' → ∃ m', m' < m ∧ W (i + 1) m' H') ∧ ∀ x H', (Itl K a).yld i H x H' → g x (wipe σ vs) H' fun σ2 H2 => wipe σ2 vs = wipe σ vs ∧ tt σ2 H2 fun b H3 =>
        if b = true then te σ2 H3 fun y H4 => ∃ acc, H4 D = some (.lst acc) ∧ acc.length < sizeLine ∧ Nx (upd H4 D (.lst (acc ++ [y]))) else Nx H3) := by
  refine lc_list (xs := zs.map f) (fun i H => Same H1 H ∧ H D = some (.lst (((zs.take i).filter t).map f))) ⟨same_upd hD, upd_same⟩ (fun i H _ h => L2.Same.seq h.1 ha) (fun i x H hx h => ?_) (fun H h => hd H h.1 (by rw [h.2, List.length_map, List.take_length]))
  rw [List.getElem?_map] at hx
  obtain ⟨z, hz1, rfl⟩ := Option.map_eq_some_iff.mp hx
  have et : zs.take (i + 1) = zs.take i ++ [z] := by rw [List.take_add_one, hz1]; rfl
  refine hs i z H _ _ hz1 h.1 (fun tn H'' s => ?_) (fun ty H'' s => ?_)
  · refine ⟨L2.Same.trans h.1 s, ?_⟩
    rw [s _ _ h.2, et, List.filter_append, List.filter_cons_of_neg (by simp [tn]), List.filter_nil, List.append_nil]
  · refine ⟨((zs.take i).filter t).map f, s _ _ h.2, size_lt ?_, same_set (L2.Same.trans h.1 s) hD, ?_⟩
    · have := List.length_filter_le t (zs.take i)
      simp at this ⊢; omega
    · rw [upd_same, et, List.filter_append, List.filter_cons_of_pos ty, List.filter_nil, List.map_append]; rfl
/-! ### parts of a list -/
theorem cut_from (xs : List V) (k : Nat) : cutV xs (some (k : Int)) none = xs.drop k := by
  unfold cutV
  rw [HT.sIx_nat, HT.sIx_none, List.take_of_length_le (by rw [List.length_drop]; omega)]
  by_cases h : k ≤ xs.length
  · rw [Nat.min_eq_left h]
  · rw [Nat.min_eq_right (by omega), List.drop_length, List.drop_of_length_le (by omega)]
theorem cut_to (xs : List V) (k : Nat) : cutV xs none (some (k : Int)) = xs.take k := by
  unfold cutV
  rw [HT.sIx_nat, HT.sIx_none, List.drop_zero, Nat.sub_zero]
  by_cases h : k ≤ xs.length
  · rw [Nat.min_eq_left h]
  · rw [Nat.min_eq_right (by omega), List.take_length, List.take_of_length_le (by omega)]
/-! ### a list beside the empty one -/
theorem eqv_nilD (ds : List PyData) : PyData.eqv (.list ds) (.list []) = ds.isEmpty := by
  cases ds with
  | nil => rfl
  | cons a r => simp [PyData.eqv, PyData.eqvAll]
end Hx

set_option Elab.async false
set_option linter.all false
set_option maxRecDepth 100000
set_option maxHeartbeats 8000000

namespace K56
open PySem PySem.Spec PyProof.Rows L2 Hx
def top (i : Nat) : Stmt := PySem.Challenge.pw_orderlycore_k56_whole_the_buffer_by_an_o.main.body.getD i (.Pass ⟨0, 0, 0, 0⟩)
abbrev s_is_integer : Stmt := top 7
theorem sc_is_integer : FnScope ["value"] ["value"] (defScope s_is_integer) := ⟨rfl, rfl, rfl, by decide +kernel, rfl, by decide +kernel, by decide +kernel⟩
abbrev s_is_count : Stmt := top 8
theorem sc_is_count : FnScope ["value"] ["value"] (defScope s_is_count) := ⟨rfl, rfl, rfl, by decide +kernel, rfl, by decide +kernel, by decide +kernel⟩
abbrev s_is_between : Stmt := top 9
theorem sc_is_between : FnScope ["value", "least", "most"] ["value", "least", "most"] (defScope s_is_between) := ⟨rfl, rfl, rfl, by decide +kernel, rfl, by decide +kernel, by decide +kernel⟩
abbrev s_need_many : Stmt := top 10
theorem sc_need_many : FnScope ["value", "least", "most"] ["value", "least", "most"] (defScope s_need_many) := ⟨rfl, rfl, rfl, by decide +kernel, rfl, by decide +kernel, by decide +kernel⟩
abbrev s_is_word : Stmt := top 14
theorem sc_is_word : FnScope ["value"] ["value"] (defScope s_is_word) := ⟨rfl, rfl, rfl, by decide +kernel, rfl, by decide +kernel, by decide +kernel⟩
abbrev s_is_place : Stmt := top 15
theorem sc_is_place : FnScope ["value"] ["value"] (defScope s_is_place) := ⟨rfl, rfl, rfl, by decide +kernel, rfl, by decide +kernel, by decide +kernel⟩
abbrev s_need_word : Stmt := top 16
theorem sc_need_word : FnScope ["value"] ["value"] (defScope s_need_word) := ⟨rfl, rfl, rfl, by decide +kernel, rfl, by decide +kernel, by decide +kernel⟩
abbrev s_need_place : Stmt := top 17
theorem sc_need_place : FnScope ["value"] ["value"] (defScope s_need_place) := ⟨rfl, rfl, rfl, by decide +kernel, rfl, by decide +kernel, by decide +kernel⟩
abbrev s_is_memory_place : Stmt := top 20
theorem sc_is_memory_place : FnScope ["value"] ["value"] (defScope s_is_memory_place) := ⟨rfl, rfl, rfl, by decide +kernel, rfl, by decide +kernel, by decide +kernel⟩
abbrev s_need_memory_place : Stmt := top 21
theorem sc_need_memory_place : FnScope ["value"] ["value"] (defScope s_need_memory_place) := ⟨rfl, rfl, rfl, by decide +kernel, rfl, by decide +kernel, by decide +kernel⟩
abbrev s_is_page : Stmt := top 24
theorem sc_is_page : FnScope ["value"] ["value"] (defScope s_is_page) := ⟨rfl, rfl, rfl, by decide +kernel, rfl, by decide +kernel, by decide +kernel⟩
abbrev s_need_page : Stmt := top 25
theorem sc_need_page : FnScope ["value"] ["value"] (defScope s_need_page) := ⟨rfl, rfl, rfl, by decide +kernel, rfl, by decide +kernel, by decide +kernel⟩
abbrev s_Buffer_init : Stmt := inClass (top 28) 0
theorem sc_Buffer_init : FnScope ["self", "many"] ["self", "many"] (defScope s_Buffer_init) := ⟨rfl, rfl, rfl, by decide +kernel, rfl, by decide +kernel, by decide +kernel⟩
abbrev s_Buffer_most : Stmt := inClass (top 28) 1
theorem sc_Buffer_most : FnScope ["self"] ["self"] (defScope s_Buffer_most) := ⟨rfl, rfl, rfl, by decide +kernel, rfl, by decide +kernel, by decide +kernel⟩
abbrev s_Buffer_rows : Stmt := inClass (top 28) 2
theorem sc_Buffer_rows : FnScope ["self"] ["self"] (defScope s_Buffer_rows) := ⟨rfl, rfl, rfl, by decide +kernel, rfl, by decide +kernel, by decide +kernel⟩
abbrev s_Buffer_found : Stmt := inClass (top 28) 3
theorem sc_Buffer_found : FnScope ["self", "page", "row"] ["self", "page"] (defScope s_Buffer_found) := ⟨rfl, rfl, rfl, by decide +kernel, rfl, by decide +kernel, by decide +kernel⟩
abbrev s_Buffer_entered : Stmt := inClass (top 28) 4
theorem sc_Buffer_entered : FnScope ["self", "page", "first", "second", "word", "rows", "row"] ["self", "page", "first", "second", "word"] (defScope s_Buffer_entered) := ⟨rfl, rfl, rfl, by decide +kernel, rfl, by decide +kernel, by decide +kernel⟩
abbrev s_Buffer_stored : Stmt := inClass (top 28) 5
theorem sc_Buffer_stored : FnScope ["self", "place", "row"] ["self", "place"] (defScope s_Buffer_stored) := ⟨rfl, rfl, rfl, by decide +kernel, rfl, by decide +kernel, by decide +kernel⟩
abbrev s_Buffer_out : Stmt := inClass (top 28) 6
theorem sc_Buffer_out : FnScope ["self", "position"] ["self", "position"] (defScope s_Buffer_out) := ⟨rfl, rfl, rfl, by decide +kernel, rfl, by decide +kernel, by decide +kernel⟩
abbrev s_Buffer_cleared : Stmt := inClass (top 28) 7
theorem sc_Buffer_cleared : FnScope ["self"] ["self"] (defScope s_Buffer_cleared) := ⟨rfl, rfl, rfl, by decide +kernel, rfl, by decide +kernel, by decide +kernel⟩
abbrev s_Buffer_copy : Stmt := inClass (top 28) 8
theorem sc_Buffer_copy : FnScope ["self", "made"] ["self"] (defScope s_Buffer_copy) := ⟨rfl, rfl, rfl, by decide +kernel, rfl, by decide +kernel, by decide +kernel⟩
abbrev s_Buffer_eq : Stmt := inClass (top 28) 9
theorem sc_Buffer_eq : FnScope ["self", "other"] ["self", "other"] (defScope s_Buffer_eq) := ⟨rfl, rfl, rfl, by decide +kernel, rfl, by decide +kernel, by decide +kernel⟩
abbrev s_Lpot : Stmt := top 30
theorem sc_Lpot : FnScope ["_law_script", "_law_k", "_law_cell", "_law_mixed"] ["_law_script", "_law_k"] (defScope s_Lpot) := ⟨rfl, rfl, rfl, by decide +kernel, rfl, by decide +kernel, by decide +kernel⟩
abbrev s_Ldraw : Stmt := top 31
theorem sc_Ldraw : FnScope ["_law_pot_here", "_law_many", "_law_drawn"] ["_law_pot_here", "_law_many"] (defScope s_Ldraw) := ⟨rfl, rfl, rfl, by decide +kernel, rfl, by decide +kernel, by decide +kernel⟩
abbrev s_Ldeed_right : Stmt := top 32
theorem sc_Ldeed_right : FnScope ["_law_pot_here", "_law_kept", "_law_rows", "_law_many", "_law_way", "_law_page", "_law_place", "_law_row", "_law_told", "_law_at", "_law_due", "_law_found", "_law_one"] ["_law_pot_here", "_law_kept", "_law_rows", "_law_many"] (defScope s_Ldeed_right) := ⟨rfl, rfl, rfl, by decide +kernel, rfl, by decide +kernel, by decide +kernel⟩
abbrev s_Lright : Stmt := top 33
theorem sc_Lright : FnScope ["_law_pot_here", "_law_many", "_law_rows", "_law_kept", "_law_other", "_law_turn", "_law_late", "_law_is_right", "_law_told", "_law_fresh", "_law_row"] ["_law_pot_here"] (defScope s_Lright) := ⟨rfl, rfl, rfl, by decide +kernel, rfl, by decide +kernel, by decide +kernel⟩
abbrev s_law : Stmt := top 34
theorem sc_law : FnScope ["_law_script"] ["_law_script"] (defScope s_law) := ⟨rfl, rfl, rfl, by decide +kernel, rfl, by decide +kernel, by decide +kernel⟩
structure Txt (K : PySem.W.Frag) (mg : Str → Option Value) where
  C_Buffer : Addr
  cl_Buffer : Cls K C_Buffer
  g_Buffer : mg "Buffer" = some (.ref C_Buffer)
  n_Buffer_most : NoAttr K C_Buffer "_most"
  n_Buffer_rows : NoAttr K C_Buffer "_rows"
  f_is_integer : Addr
  fd_is_integer : FuncData
  F_is_integer : Fun K "is_integer" "is_integer" s_is_integer f_is_integer fd_is_integer
  g_is_integer : mg "is_integer" = some (.ref f_is_integer)
  b_is_integer : Binds K fd_is_integer ["value"] []
  f_is_count : Addr
  fd_is_count : FuncData
  F_is_count : Fun K "is_count" "is_count" s_is_count f_is_count fd_is_count
  g_is_count : mg "is_count" = some (.ref f_is_count)
  b_is_count : Binds K fd_is_count ["value"] []
  f_is_between : Addr
  fd_is_between : FuncData
  F_is_between : Fun K "is_between" "is_between" s_is_between f_is_between fd_is_between
  g_is_between : mg "is_between" = some (.ref f_is_between)
  b_is_between : Binds K fd_is_between ["value", "least", "most"] []
  f_need_many : Addr
  fd_need_many : FuncData
  F_need_many : Fun K "need_many" "need_many" s_need_many f_need_many fd_need_many
  g_need_many : mg "need_many" = some (.ref f_need_many)
  b_need_many : Binds K fd_need_many ["value", "least", "most"] []
  f_is_word : Addr
  fd_is_word : FuncData
  F_is_word : Fun K "is_word" "is_word" s_is_word f_is_word fd_is_word
  g_is_word : mg "is_word" = some (.ref f_is_word)
  b_is_word : Binds K fd_is_word ["value"] []
  f_is_place : Addr
  fd_is_place : FuncData
  F_is_place : Fun K "is_place" "is_place" s_is_place f_is_place fd_is_place
  g_is_place : mg "is_place" = some (.ref f_is_place)
  b_is_place : Binds K fd_is_place ["value"] []
  f_need_word : Addr
  fd_need_word : FuncData
  F_need_word : Fun K "need_word" "need_word" s_need_word f_need_word fd_need_word
  g_need_word : mg "need_word" = some (.ref f_need_word)
  b_need_word : Binds K fd_need_word ["value"] []
  f_need_place : Addr
  fd_need_place : FuncData
  F_need_place : Fun K "need_place" "need_place" s_need_place f_need_place fd_need_place
  g_need_place : mg "need_place" = some (.ref f_need_place)
  b_need_place : Binds K fd_need_place ["value"] []
  f_is_memory_place : Addr
  fd_is_memory_place : FuncData
  F_is_memory_place : Fun K "is_memory_place" "is_memory_place" s_is_memory_place f_is_memory_place fd_is_memory_place
  g_is_memory_place : mg "is_memory_place" = some (.ref f_is_memory_place)
  b_is_memory_place : Binds K fd_is_memory_place ["value"] []
  f_need_memory_place : Addr
  fd_need_memory_place : FuncData
  F_need_memory_place : Fun K "need_memory_place" "need_memory_place" s_need_memory_place f_need_memory_place fd_need_memory_place
  g_need_memory_place : mg "need_memory_place" = some (.ref f_need_memory_place)
  b_need_memory_place : Binds K fd_need_memory_place ["value"] []
  f_is_page : Addr
  fd_is_page : FuncData
  F_is_page : Fun K "is_page" "is_page" s_is_page f_is_page fd_is_page
  g_is_page : mg "is_page" = some (.ref f_is_page)
  b_is_page : Binds K fd_is_page ["value"] []
  f_need_page : Addr
  fd_need_page : FuncData
  F_need_page : Fun K "need_page" "need_page" s_need_page f_need_page fd_need_page
  g_need_page : mg "need_page" = some (.ref f_need_page)
  b_need_page : Binds K fd_need_page ["value"] []
  f_Buffer_init : Addr
  fd_Buffer_init : FuncData
  F_Buffer_init : Fun K "__init__" "Buffer.__init__" s_Buffer_init f_Buffer_init fd_Buffer_init
  b_Buffer_init : Binds K fd_Buffer_init ["self", "many"] []
  mk_Buffer : Mk K C_Buffer f_Buffer_init
  kp_Buffer_init_1_0 : KBn K fd_Buffer_init ["self", "many"] 1 ["many"] (kwP 1 [0]) (kwP 1 [0])
  f_Buffer_most : Addr
  fd_Buffer_most : FuncData
  F_Buffer_most : Fun K "most" "Buffer.most" s_Buffer_most f_Buffer_most fd_Buffer_most
  b_Buffer_most : Binds K fd_Buffer_most ["self"] []
  pa_Buffer_most : Addr
  p_Buffer_most : PropOf K C_Buffer "most" pa_Buffer_most f_Buffer_most
  f_Buffer_rows : Addr
  fd_Buffer_rows : FuncData
  F_Buffer_rows : Fun K "rows" "Buffer.rows" s_Buffer_rows f_Buffer_rows fd_Buffer_rows
  b_Buffer_rows : Binds K fd_Buffer_rows ["self"] []
  me_Buffer_rows : Meth K C_Buffer "rows" f_Buffer_rows
  f_Buffer_found : Addr
  fd_Buffer_found : FuncData
  F_Buffer_found : Fun K "found" "Buffer.found" s_Buffer_found f_Buffer_found fd_Buffer_found
  b_Buffer_found : Binds K fd_Buffer_found ["self", "page"] []
  kb_Buffer_found : KBinds K fd_Buffer_found ["self", "page"] ["page"] kwM kwM
  me_Buffer_found : Meth K C_Buffer "found" f_Buffer_found
  f_Buffer_entered : Addr
  fd_Buffer_entered : FuncData
  F_Buffer_entered : Fun K "entered" "Buffer.entered" s_Buffer_entered f_Buffer_entered fd_Buffer_entered
  b_Buffer_entered : Binds K fd_Buffer_entered ["self", "page", "first", "second", "word"] []
  kp_Buffer_entered_1_3210 : KBinds K fd_Buffer_entered ["self", "page", "first", "second", "word"] ["word", "second", "first", "page"] (kwP 1 [3, 2, 1, 0]) (kwP 1 [3, 2, 1, 0])
  me_Buffer_entered : Meth K C_Buffer "entered" f_Buffer_entered
  f_Buffer_stored : Addr
  fd_Buffer_stored : FuncData
  F_Buffer_stored : Fun K "stored" "Buffer.stored" s_Buffer_stored f_Buffer_stored fd_Buffer_stored
  b_Buffer_stored : Binds K fd_Buffer_stored ["self", "place"] []
  me_Buffer_stored : Meth K C_Buffer "stored" f_Buffer_stored
  f_Buffer_out : Addr
  fd_Buffer_out : FuncData
  F_Buffer_out : Fun K "out" "Buffer.out" s_Buffer_out f_Buffer_out fd_Buffer_out
  b_Buffer_out : Binds K fd_Buffer_out ["self", "position"] []
  me_Buffer_out : Meth K C_Buffer "out" f_Buffer_out
  f_Buffer_cleared : Addr
  fd_Buffer_cleared : FuncData
  F_Buffer_cleared : Fun K "cleared" "Buffer.cleared" s_Buffer_cleared f_Buffer_cleared fd_Buffer_cleared
  b_Buffer_cleared : Binds K fd_Buffer_cleared ["self"] []
  me_Buffer_cleared : Meth K C_Buffer "cleared" f_Buffer_cleared
  f_Buffer_copy : Addr
  fd_Buffer_copy : FuncData
  F_Buffer_copy : Fun K "copy" "Buffer.copy" s_Buffer_copy f_Buffer_copy fd_Buffer_copy
  b_Buffer_copy : Binds K fd_Buffer_copy ["self"] []
  me_Buffer_copy : Meth K C_Buffer "copy" f_Buffer_copy
  f_Buffer_eq : Addr
  fd_Buffer_eq : FuncData
  F_Buffer_eq : Fun K "__eq__" "Buffer.__eq__" s_Buffer_eq f_Buffer_eq fd_Buffer_eq
  b_Buffer_eq : Binds K fd_Buffer_eq ["self", "other"] []
  me_Buffer_eq : Meth K C_Buffer "__eq__" f_Buffer_eq
  f_Lpot : Addr
  fd_Lpot : FuncData
  F_Lpot : Fun K "_law_pot" "_law_pot" s_Lpot f_Lpot fd_Lpot
  g_Lpot : mg "_law_pot" = some (.ref f_Lpot)
  b_Lpot : Binds K fd_Lpot ["_law_script", "_law_k"] []
  f_Ldraw : Addr
  fd_Ldraw : FuncData
  F_Ldraw : Fun K "_law_draw" "_law_draw" s_Ldraw f_Ldraw fd_Ldraw
  g_Ldraw : mg "_law_draw" = some (.ref f_Ldraw)
  b_Ldraw : Binds K fd_Ldraw ["_law_pot_here", "_law_many"] []
  f_Ldeed_right : Addr
  fd_Ldeed_right : FuncData
  F_Ldeed_right : Fun K "_law_deed_right" "_law_deed_right" s_Ldeed_right f_Ldeed_right fd_Ldeed_right
  g_Ldeed_right : mg "_law_deed_right" = some (.ref f_Ldeed_right)
  b_Ldeed_right : Binds K fd_Ldeed_right ["_law_pot_here", "_law_kept", "_law_rows", "_law_many"] []
  f_Lright : Addr
  fd_Lright : FuncData
  F_Lright : Fun K "_law_right" "_law_right" s_Lright f_Lright fd_Lright
  g_Lright : mg "_law_right" = some (.ref f_Lright)
  b_Lright : Binds K fd_Lright ["_law_pot_here"] []
  f_law : Addr
  fd_law : FuncData
  F_law : Fun K "law" "law" s_law f_law fd_law
  g_law : mg "law" = some (.ref f_law)
  b_law : Binds K fd_law ["_law_script"] []
  m_abs : mg "abs" = none
  m_bool : mg "bool" = none
  m_divmod : mg "divmod" = none
  m_int : mg "int" = none
  m_isinstance : mg "isinstance" = none
  m_len : mg "len" = none
  m_list : mg "list" = none
  m_max : mg "max" = none
  m_range : mg "range" = none
  c_WORDS : ∃ t, mg "WORDS" = some (.int 65536 t)
  c_PLACES : ∃ t, mg "PLACES" = some (.int 1024 t)
  c_MEMORY_PLACES : ∃ t, mg "MEMORY_PLACES" = some (.int 960 t)
  c__PAGES : ∃ t, mg "_PAGES" = some (.int 256 t)
  c__MOST_ENTRIES : ∃ t, mg "_MOST_ENTRIES" = some (.int 16 t)
  ic_Buffer : PySem.W.findIn K (.ref C_Buffer) "__class__" = some (some (.builtin "object.__class__"))
  in_Buffer : PySem.W.specialIn K (.builtin "object.__class__") "__get__" = some (some (.builtin "getset_descriptor.__get__"))
  it_Buffer : PySem.W.takesIn K (.builtin "object.__class__") = some true
  im_Buffer : PySem.W.mroIn K C_Buffer (.type "object") = some true
  sl_Buffer : PySem.W.subIn K (.type "list") (.ref C_Buffer) = some false
  ik_Buffer : PySem.W.isClsIn K C_Buffer = true
  ty_Buffer : PySem.W.typeIn K (.ref C_Buffer) = some (.type "type")
end K56

set_option Elab.async false
set_option linter.all false
set_option maxRecDepth 100000
set_option maxHeartbeats 8000000

namespace K56
open PySem PySem.Spec PyProof.Rows L2 Hx 
local macro_rules | `(tactic| walk_at "sm") => `(tactic| repeat' (first | assumption | apply Hx.Same.upd | exact L2.Same.refl _ | apply same_trans'))
local macro_rules | `(tactic| walk_at "hp") => `(tactic| repeat' (first | assumption | exact upd_same | apply old_upd | apply same_at))
local macro_rules | `(tactic| walk_at "rd") => `(tactic| repeat' (first | rfl | apply Exists.intro | apply And.intro | refine iteT ?_ | refine iteF ?_ | exact upd_same | exact SqL.of (by assumption) | exact SqL.of upd_same | exact SqT.of upd_same | exact SqT.of (by assumption) | ((with_reducible show (_ : Int) < _); omega) | ((with_reducible show (_ : Int) ≤ _); omega) | (show (_ : Prop); assumption) | exact Or.inl ⟨_, by assumption, rfl⟩ | exact Or.inl ⟨rfl, _, SqL.of (by assumption)⟩ | exact Or.inl ⟨rfl, _, SqL.of upd_same⟩ | apply old_upd | apply Hx.SqL.new | apply tyl_new | apply Pot.new | exact same_at (by assumption) (by assumption) | exact Or.inl (SqL.of (by assumption)) | exact Or.inl (by assumption) | exact Or.inl (SqL.of upd_same) | exact size_le (Nat.le_of_ble_eq_true rfl) | exact Nat.le_of_ble_eq_true rfl | exact True.intro | exact Or.inl rfl | exact Or.inr rfl | (show (_ : Prop); omega) | (show (_ : Prop); dsimp only; omega) | exact mulw64 (by omega) (by omega) | exact mulw64 (by (try dsimp only); omega) (by (try dsimp only); omega)))

section
variable {P : Program} {w : World} {K : PySem.W.Frag} {mg : Str → Option Value} {base : Heap}
def sp_is_integer : Sp := fun vs H Q _ => ∃ i : Int, vs = [.int i] ∧ Q (.bl true) H
theorem ok_is_integer (T : Txt K mg) : FnOk P w K mg base CX0 1 T.f_is_integer T.fd_is_integer ["value"] (sp_is_integer) := by
  refine T.F_is_integer.ok sc_is_integer (fun vs H Q E h => ?_) (fun cdv A outer s H vs Q E hr h => ?_)
  · obtain ⟨i, rfl, k⟩ := h; rfl
  · obtain ⟨i, rfl, k⟩ := h
    refine ⟨_, (pss_one (ps_ret (pe_and (pe_callB call_isi (by rfl) T.m_isinstance (by decide +kernel) (pa_cons (pv 0) (pa_cons (pe_bltn (v := .ty "int") (u := .type "int") (by rfl) T.m_int (by decide +kernel) rfl) pa_nil))) (pe_one (pe_not (pe_callB call_isi (by rfl) T.m_isinstance (by decide +kernel) (pa_cons (pv 0) (pa_cons (pe_bltn (v := .ty "bool") (u := .type "bool") (by rfl) T.m_bool (by decide +kernel) rfl) pa_nil)))))))), ?_⟩
    clear hr
    refine ⟨_, rfl, _, _, _, _, true, rfl, .ty _, .base (.int _), kit_ty (by decide +kernel), true, rfl, iteT ?_⟩
    refine ⟨_, rfl, _, _, _, _, false, rfl, .ty _, .base (.int _), kit_ty (by decide +kernel), false, rfl, k⟩
def sp_is_count : Sp := fun vs H Q _ => ∃ i : Int, vs = [.int i] ∧ 0 ≤ i ∧ Q (.bl true) H
theorem ok_is_count (T : Txt K mg) : FnOk P w K mg base CX0 2 T.f_is_count T.fd_is_count ["value"] (sp_is_count) := by
  have G_is_integer := ok_is_integer (P := P) (w := w) (base := base) T
  refine T.F_is_count.ok sc_is_count (fun vs H Q E h => ?_) (fun cdv A outer s H vs Q E hr h => ?_)
  · obtain ⟨i, rfl, hi, k⟩ := h; rfl
  · obtain ⟨i, rfl, hi, k⟩ := h
    refine ⟨_, (pss_one (ps_ret (pe_and (pe_call G_is_integer (hr.mono (by decide)) rfl T.g_is_integer T.F_is_integer.kp T.b_is_integer .nil pass0 (pa_cons (pv 0) pa_nil)) (pe_one (pe_cmpR op_ge (pv 0) pe_int (nomark _)))))), ?_⟩
    clear G_is_integer
    clear hr
    walk_at "rd"
    exact qbl k (decide_eq_true (by omega))
def sp_is_between : Sp := fun vs H Q _ => ∃ i a b : Int, vs = [.int i, .int a, .int b] ∧ Q (.bl (decide (a ≤ i ∧ i ≤ b))) H
theorem ok_is_between (T : Txt K mg) : FnOk P w K mg base CX0 2 T.f_is_between T.fd_is_between ["value", "least", "most"] (sp_is_between) := by
  have G_is_integer := ok_is_integer (P := P) (w := w) (base := base) T
  refine T.F_is_between.ok sc_is_between (fun vs H Q E h => ?_) (fun cdv A outer s H vs Q E hr h => ?_)
  · obtain ⟨i, a, b, rfl, k⟩ := h; rfl
  · obtain ⟨i, a, b, rfl, k⟩ := h
    refine ⟨_, (pss_one (ps_ret (pe_and (pe_call G_is_integer (hr.mono (by decide)) rfl T.g_is_integer T.F_is_integer.kp T.b_is_integer .nil pass0 (pa_cons (pv 0) pa_nil)) (pe_one (pe_chain op_le op_le (pv 1) (pv 0) (pv 2)))))), ?_⟩
    clear G_is_integer
    clear hr
    walk_at "rd"
    refine iteD (fun h1 => ?_) (fun h1 => ?_)
    · walk_at "rd"; exact qbl k (by simp [h1])
    · exact qbl k (by simp [h1])
def sp_need_many : Sp := fun vs H Q _ => ∃ i a b : Int, vs = [.int i, .int a, .int b] ∧ (a ≤ i ∧ i ≤ b) ∧ Q .non H
theorem ok_need_many (T : Txt K mg) : FnOk P w K mg base CX0 3 T.f_need_many T.fd_need_many ["value", "least", "most"] (sp_need_many) := by
  have G_is_between := ok_is_between (P := P) (w := w) (base := base) T
  refine T.F_need_many.ok sc_need_many (fun vs H Q E h => ?_) (fun cdv A outer s H vs Q E hr h => ?_)
  · obtain ⟨i, a, b, rfl, hi, k⟩ := h; rfl
  · obtain ⟨i, a, b, rfl, hi, k⟩ := h
    refine ⟨_, (pss_one (ps_if (pt_not (pt_val (pe_call G_is_between (hr.mono (by decide)) rfl T.g_is_between T.F_is_between.kp T.b_is_between .nil pass0 (pa_cons (pv 0) (pa_cons (pv 1) (pa_cons (pv 2) pa_nil))))))
          (pss_one ps_never)
          pss_nil)), ?_⟩
    clear G_is_between
    clear hr
    walk_at "rd"
    refine iteN (fun h => absurd hi h) (fun _ => ?_)
    walk_at "rd"
def sp_is_word : Sp := fun vs H Q _ => ∃ i : Int, vs = [.int i] ∧ (0 ≤ i ∧ i < 65536) ∧ Q (.bl true) H
theorem ok_is_word (T : Txt K mg) : FnOk P w K mg base CX0 3 T.f_is_word T.fd_is_word ["value"] (sp_is_word) := by
  have G_is_between := ok_is_between (P := P) (w := w) (base := base) T
  refine T.F_is_word.ok sc_is_word (fun vs H Q E h => ?_) (fun cdv A outer s H vs Q E hr h => ?_)
  · obtain ⟨i, rfl, hi, k⟩ := h; rfl
  · obtain ⟨i, rfl, hi, k⟩ := h
    refine ⟨_, (pss_one (ps_ret (pe_call G_is_between (hr.mono (by decide)) rfl T.g_is_between T.F_is_between.kp T.b_is_between .nil pass0 (pa_cons (pv 0) (pa_cons pe_int (pa_cons (pe_op op_sub (pe_gint rfl T.c_WORDS) pe_int) pa_nil)))))), ?_⟩
    clear G_is_between
    clear hr
    walk_at "rd"
    exact qbl k (decide_eq_true (by omega))
def sp_is_place : Sp := fun vs H Q _ => ∃ i : Int, vs = [.int i] ∧ (0 ≤ i ∧ i < 1024) ∧ Q (.bl true) H
theorem ok_is_place (T : Txt K mg) : FnOk P w K mg base CX0 3 T.f_is_place T.fd_is_place ["value"] (sp_is_place) := by
  have G_is_between := ok_is_between (P := P) (w := w) (base := base) T
  refine T.F_is_place.ok sc_is_place (fun vs H Q E h => ?_) (fun cdv A outer s H vs Q E hr h => ?_)
  · obtain ⟨i, rfl, hi, k⟩ := h; rfl
  · obtain ⟨i, rfl, hi, k⟩ := h
    refine ⟨_, (pss_one (ps_ret (pe_call G_is_between (hr.mono (by decide)) rfl T.g_is_between T.F_is_between.kp T.b_is_between .nil pass0 (pa_cons (pv 0) (pa_cons pe_int (pa_cons (pe_op op_sub (pe_gint rfl T.c_PLACES) pe_int) pa_nil)))))), ?_⟩
    clear G_is_between
    clear hr
    walk_at "rd"
    exact qbl k (decide_eq_true (by omega))
def sp_need_word : Sp := fun vs H Q _ => ∃ i : Int, vs = [.int i] ∧ (0 ≤ i ∧ i < 65536) ∧ Q .non H
theorem ok_need_word (T : Txt K mg) : FnOk P w K mg base CX0 4 T.f_need_word T.fd_need_word ["value"] (sp_need_word) := by
  have G_is_word := ok_is_word (P := P) (w := w) (base := base) T
  refine T.F_need_word.ok sc_need_word (fun vs H Q E h => ?_) (fun cdv A outer s H vs Q E hr h => ?_)
  · obtain ⟨i, rfl, hi, k⟩ := h; rfl
  · obtain ⟨i, rfl, hi, k⟩ := h
    refine ⟨_, (pss_one (ps_if (pt_not (pt_val (pe_call G_is_word (hr.mono (by decide)) rfl T.g_is_word T.F_is_word.kp T.b_is_word .nil pass0 (pa_cons (pv 0) pa_nil))))
          (pss_one ps_never)
          pss_nil)), ?_⟩
    clear G_is_word
    clear hr
    walk_at "rd"
def sp_need_place : Sp := fun vs H Q _ => ∃ i : Int, vs = [.int i] ∧ (0 ≤ i ∧ i < 1024) ∧ Q .non H
theorem ok_need_place (T : Txt K mg) : FnOk P w K mg base CX0 4 T.f_need_place T.fd_need_place ["value"] (sp_need_place) := by
  have G_is_place := ok_is_place (P := P) (w := w) (base := base) T
  refine T.F_need_place.ok sc_need_place (fun vs H Q E h => ?_) (fun cdv A outer s H vs Q E hr h => ?_)
  · obtain ⟨i, rfl, hi, k⟩ := h; rfl
  · obtain ⟨i, rfl, hi, k⟩ := h
    refine ⟨_, (pss_one (ps_if (pt_not (pt_val (pe_call G_is_place (hr.mono (by decide)) rfl T.g_is_place T.F_is_place.kp T.b_is_place .nil pass0 (pa_cons (pv 0) pa_nil))))
          (pss_one ps_never)
          pss_nil)), ?_⟩
    clear G_is_place
    clear hr
    walk_at "rd"
def sp_is_memory_place : Sp := fun vs H Q _ => ∃ i : Int, vs = [.int i] ∧ (0 ≤ i ∧ i < 960) ∧ Q (.bl true) H
theorem ok_is_memory_place (T : Txt K mg) : FnOk P w K mg base CX0 3 T.f_is_memory_place T.fd_is_memory_place ["value"] (sp_is_memory_place) := by
  have G_is_between := ok_is_between (P := P) (w := w) (base := base) T
  refine T.F_is_memory_place.ok sc_is_memory_place (fun vs H Q E h => ?_) (fun cdv A outer s H vs Q E hr h => ?_)
  · obtain ⟨i, rfl, hi, k⟩ := h; rfl
  · obtain ⟨i, rfl, hi, k⟩ := h
    refine ⟨_, (pss_one (ps_ret (pe_call G_is_between (hr.mono (by decide)) rfl T.g_is_between T.F_is_between.kp T.b_is_between .nil pass0 (pa_cons (pv 0) (pa_cons pe_int (pa_cons (pe_op op_sub (pe_gint rfl T.c_MEMORY_PLACES) pe_int) pa_nil)))))), ?_⟩
    clear G_is_between
    clear hr
    walk_at "rd"
    exact qbl k (decide_eq_true (by omega))
def sp_need_memory_place : Sp := fun vs H Q _ => ∃ i : Int, vs = [.int i] ∧ (0 ≤ i ∧ i < 960) ∧ Q .non H
theorem ok_need_memory_place (T : Txt K mg) : FnOk P w K mg base CX0 4 T.f_need_memory_place T.fd_need_memory_place ["value"] (sp_need_memory_place) := by
  have G_is_memory_place := ok_is_memory_place (P := P) (w := w) (base := base) T
  refine T.F_need_memory_place.ok sc_need_memory_place (fun vs H Q E h => ?_) (fun cdv A outer s H vs Q E hr h => ?_)
  · obtain ⟨i, rfl, hi, k⟩ := h; rfl
  · obtain ⟨i, rfl, hi, k⟩ := h
    refine ⟨_, (pss_one (ps_if (pt_not (pt_val (pe_call G_is_memory_place (hr.mono (by decide)) rfl T.g_is_memory_place T.F_is_memory_place.kp T.b_is_memory_place .nil pass0 (pa_cons (pv 0) pa_nil))))
          (pss_one ps_never)
          pss_nil)), ?_⟩
    clear G_is_memory_place
    clear hr
    walk_at "rd"
def sp_is_page : Sp := fun vs H Q _ => ∃ i : Int, vs = [.int i] ∧ (0 ≤ i ∧ i < 256) ∧ Q (.bl true) H
theorem ok_is_page (T : Txt K mg) : FnOk P w K mg base CX0 3 T.f_is_page T.fd_is_page ["value"] (sp_is_page) := by
  have G_is_between := ok_is_between (P := P) (w := w) (base := base) T
  refine T.F_is_page.ok sc_is_page (fun vs H Q E h => ?_) (fun cdv A outer s H vs Q E hr h => ?_)
  · obtain ⟨i, rfl, hi, k⟩ := h; rfl
  · obtain ⟨i, rfl, hi, k⟩ := h
    refine ⟨_, (pss_one (ps_ret (pe_call G_is_between (hr.mono (by decide)) rfl T.g_is_between T.F_is_between.kp T.b_is_between .nil pass0 (pa_cons (pv 0) (pa_cons pe_int (pa_cons (pe_op op_sub (pe_gint rfl T.c__PAGES) pe_int) pa_nil)))))), ?_⟩
    clear G_is_between
    clear hr
    walk_at "rd"
    exact qbl k (decide_eq_true (by omega))
def sp_need_page : Sp := fun vs H Q _ => ∃ i : Int, vs = [.int i] ∧ (0 ≤ i ∧ i < 256) ∧ Q .non H
theorem ok_need_page (T : Txt K mg) : FnOk P w K mg base CX0 4 T.f_need_page T.fd_need_page ["value"] (sp_need_page) := by
  have G_is_page := ok_is_page (P := P) (w := w) (base := base) T
  refine T.F_need_page.ok sc_need_page (fun vs H Q E h => ?_) (fun cdv A outer s H vs Q E hr h => ?_)
  · obtain ⟨i, rfl, hi, k⟩ := h; rfl
  · obtain ⟨i, rfl, hi, k⟩ := h
    refine ⟨_, (pss_one (ps_if (pt_not (pt_val (pe_call G_is_page (hr.mono (by decide)) rfl T.g_is_page T.F_is_page.kp T.b_is_page .nil pass0 (pa_cons (pv 0) pa_nil))))
          (pss_one ps_never)
          pss_nil)), ?_⟩
    clear G_is_page
    clear hr
    walk_at "rd"
abbrev Rw := Int × Int × Int × Int
def vR (r : Rw) : List V := [.int r.1, .int r.2.1, .int r.2.2.1, .int r.2.2.2]
def dR (r : Rw) : PyData := .tuple [.int r.1, .int r.2.1, .int r.2.2.1, .int r.2.2.2]
def rf (z : Addr × Rw) : V := .ref z.1
structure RowsAt (H : Hp) (l : Addr) (zs : List (Addr × Rw)) : Prop where
  ls : H l = some (.lst (zs.map rf))
  tp : ∀ z ∈ zs, H z.1 = some (.tup (vR z.2))
/-- at l a list of these rows -/
def LR (H : Hp) (l : Addr) (rs : List Rw) : Prop := ∃ zs : List (Addr × Rw), RowsAt H l zs ∧ zs.map Prod.snd = rs
theorem RowsAt.same {H H' : Hp} {l : Addr} {zs : List (Addr × Rw)} (s : Same H H') (h : RowsAt H l zs) : RowsAt H' l zs := ⟨s _ _ h.ls, fun z hz => s _ _ (h.tp z hz)⟩
theorem LR.same {H H' : Hp} {l : Addr} {rs : List Rw} (s : Same H H') (h : LR H l rs) : LR H' l rs := h.imp fun _ h => ⟨h.1.same s, h.2⟩
abbrev F2 (m : Int) (l : Addr) : List (Str × V) := [("_most", .int m), ("_rows", .ref l)]
theorem pf1 (m : Int) : putF "_most" (.int m) [] = ([("_most", .int m)] : List (Str × V)) := rfl
theorem pf2 (m : Int) (l : Addr) : putF "_rows" (.ref l) [("_most", .int m)] = F2 m l := rfl
theorem pu2 (m : Int) (l l' : Addr) : putF "_rows" (.ref l') (F2 m l) = F2 m l' := rfl
theorem gt1 (m : Int) (l : Addr) : (F2 m l).lookup ("_most" : Str) = some (.int m) := rfl
theorem gt2 (m : Int) (l : Addr) : (F2 m l).lookup ("_rows" : Str) = some (.ref l) := rfl
/-- a buffer at x, its list at l -/
structure BufAt (C : Addr) (H : Hp) (x l : Addr) (m : Int) (rs : List Rw) : Prop where
  ob : ∃ dx, H x = some (.ins C dx (F2 m l))
  rw : LR H l rs
  mb : 1 ≤ m ∧ m ≤ 6
theorem BufAt.same {C : Addr} {H H' : Hp} {x l : Addr} {m : Int} {rs : List Rw} (s : Same H H') (h : BufAt C H x l m rs) : BufAt C H' x l m rs := ⟨h.ob.imp fun _ e => s _ _ e, h.rw.same s, h.mb⟩
theorem BufAt.xl {C : Addr} {H : Hp} {x l : Addr} {m : Int} {rs : List Rw} (h : BufAt C H x l m rs) : l ≠ x := fun z => by
  obtain ⟨dx, e⟩ := h.ob
  obtain ⟨zs, r, _⟩ := h.rw
  have := r.ls
  rw [z, e] at this
  cases this
def sp_init (C : Addr) : Sp := fun vs H Q _ => ∃ (x dx : Addr) (m : Int), vs = [.ref x, .int m] ∧ H x = some (.ins C dx []) ∧ (1 ≤ m ∧ m ≤ 6) ∧
  ∀ (l : Addr) (H' : Hp), H l = none → BufAt C H' x l m [] → But x H H' → Q .non H'
theorem ok_Buffer_init (T : Txt K mg) : FnOk P w K mg base CX0 4 T.f_Buffer_init T.fd_Buffer_init ["self", "many"] (sp_init T.C_Buffer) := by
  have G_need_many := ok_need_many (P := P) (w := w) (base := base) T
  refine T.F_Buffer_init.ok sc_Buffer_init (fun vs H Q E h => ?_) (fun cdv A outer s H vs Q E hr h => ?_)
  · obtain ⟨x, dx, m, rfl, hx, hm, k⟩ := h; rfl
  · obtain ⟨x, dx, m, rfl, hx, hm, k⟩ := h
    refine ⟨_, (pss_cons (ps_expr (pe_call G_need_many (hr.mono (by decide)) rfl T.g_need_many T.F_need_many.kp T.b_need_many .nil pass0 (pa_cons (pv 1) (pa_cons pe_int (pa_cons (pe_gint rfl T.c__MOST_ENTRIES) pa_nil)))))
        (pss_cons (ps_stop (ps_fld (pv 0) (pv 1) rfl))
        (pss_one (ps_stop (ps_fld (pv 0) (pe_lst pa_nil) rfl))))), ?_⟩
    clear G_need_many
    clear hr
    have c1 := T.cl_Buffer
    have n1 := T.n_Buffer_most
    have n2 := T.n_Buffer_rows
    walk_at "rd"
    refine ⟨?_⟩
    rw [pf1]
    walk_at "rd"
    intro l hl
    have lx : l ≠ x := fun z => by rw [z, upd_same] at hl; cases hl
    walk_at "rd"
    refine ⟨?_⟩
    rw [pf2]
    rw [upd_ne lx] at hl
    refine k l _ hl ⟨⟨dx, upd_same⟩, ⟨[], ⟨?_, fun z hz => nomatch hz⟩, rfl⟩, hm⟩ (fun b u nb hb => ?_)
    · rw [upd_ne lx]; exact upd_same
    · rw [upd_ne nb, upd_ne (ne_of_none hb hl), upd_ne nb]; exact hb
def sp_most (C : Addr) : Sp := fun vs H Q _ => ∃ (x l : Addr) (m : Int) (rs : List Rw), vs = [.ref x] ∧ BufAt C H x l m rs ∧ Q (.int m) H
theorem ok_Buffer_most (T : Txt K mg) : FnOk P w K mg base CX0 1 T.f_Buffer_most T.fd_Buffer_most ["self"] (sp_most T.C_Buffer) := by
  refine T.F_Buffer_most.ok sc_Buffer_most (fun vs H Q E h => ?_) (fun cdv A outer s H vs Q E hr h => ?_)
  · obtain ⟨x, l, m, rs, rfl, hd, k⟩ := h; rfl
  · obtain ⟨x, l, m, rs, rfl, hd, k⟩ := h
    refine ⟨_, (pss_one (ps_ret (pe_fld (pv 0) rfl))), ?_⟩
    clear hr
    obtain ⟨dx, hx⟩ := id hd.ob
    have c1 := T.cl_Buffer
    have n1 := T.n_Buffer_most
    have g1 := gt1 m l
    walk_at "rd"
def sp_rows (C : Addr) : Sp := fun vs H Q _ => ∃ (x l : Addr) (m : Int) (rs : List Rw), vs = [.ref x] ∧ BufAt C H x l m rs ∧ ∀ (p : Addr) (H' : Hp), H p = none → LR H' p rs → Same H H' → Q (.ref p) H'
theorem ok_Buffer_rows (T : Txt K mg) : FnOk P w K mg base CX0 1 T.f_Buffer_rows T.fd_Buffer_rows ["self"] (sp_rows T.C_Buffer) := by
  refine T.F_Buffer_rows.ok sc_Buffer_rows (fun vs H Q E h => ?_) (fun cdv A outer s H vs Q E hr h => ?_)
  · obtain ⟨x, l, m, rs, rfl, hd, k⟩ := h; rfl
  · obtain ⟨x, l, m, rs, rfl, hd, k⟩ := h
    refine ⟨_, (pss_one (ps_ret (pe_callTy call_list_of (by rfl) T.m_list (by decide +kernel) (pa_cons (pe_fld (pv 0) rfl) pa_nil)))), ?_⟩
    clear hr
    obtain ⟨dx, hx⟩ := id hd.ob
    obtain ⟨zs, hz, hzr⟩ := id hd.rw
    have c1 := T.cl_Buffer
    have n2 := T.n_Buffer_rows
    have g2 := gt2 m l
    have hl := hz.ls
    walk_at "rd"
    intro p hp
    exact k p _ hp ⟨zs, ⟨upd_same, fun z h => old_upd hp (hz.tp z h)⟩, hzr⟩ (same_upd hp)
def fnd (rs : List Rw) (pg : Int) : PyData := match rs.find? (fun r => r.1 == pg) with
  | some r => dR r
  | none => .none
def sp_found (K : PySem.W.Frag) (C : Addr) : Sp := fun vs H Q _ => ∃ (x l : Addr) (m : Int) (rs : List Rw) (pg : Int), vs = [.ref x, .int pg] ∧ BufAt C H x l m rs ∧ (0 ≤ pg ∧ pg < 256) ∧ ∀ v, Dp K H v (fnd rs pg) → Q v H
theorem ok_Buffer_found (T : Txt K mg) : FnOk P w K mg base CX0 5 T.f_Buffer_found T.fd_Buffer_found ["self", "page"] (sp_found K T.C_Buffer) := by
  have G_need_page := ok_need_page (P := P) (w := w) (base := base) T
  refine T.F_Buffer_found.ok sc_Buffer_found (fun vs H Q E h => ?_) (fun cdv A outer s H vs Q E hr h => ?_)
  · obtain ⟨x, l, m, rs, pg, rfl, hd, hp, k⟩ := h; rfl
  · obtain ⟨x, l, m, rs, pg, rfl, hd, hp, k⟩ := h
    refine ⟨_, (pss_cons (ps_expr (pe_call G_need_page (hr.mono (by decide)) rfl T.g_need_page T.F_need_page.kp T.b_need_page .nil pass0 (pa_cons (pv 1) pa_nil)))
        (pss_cons (ps_forS PassesOwn.never rfl (pi_list (pe_fld (pv 0) rfl)) (pg_name (i := 2) sc_Buffer_found.nd rfl (Or.inl rfl))
          (pss_one (ps_if (pt_cmpR op_eq (pe_ix ix_tup (pv 2) pe_int (fun _ _ => rfl)) (pv 1) (nomark _))
            (pss_one (ps_ret (pv 2)))
            pss_nil)))
        (pss_one (ps_ret pe_non)))), ?_⟩
    clear G_need_page
    clear hr
    obtain ⟨dx, hx⟩ := id hd.ob
    obtain ⟨zs, hz, rfl⟩ := id hd.rw
    have c1 := T.cl_Buffer
    have n2 := T.n_Buffer_rows
    have g2 := gt2 m l
    have hl := hz.ls
    walk_at "rd"
    refine ⟨for_list (xs := zs.map rf) (fun i σ H' => Stop (∃ t, σ = [some (.ref x), some (.int pg), t] ∧ H' = H ∧ (zs.take i).find? (fun z => z.2.1 == pg) = none)) ⟨⟨none, rfl, rfl, rfl⟩⟩ (fun i σ H' hi h => ?_) (fun i v σ H' hv h => ?_) (fun σ H' h => ?_)⟩
    · obtain ⟨t, rfl, rfl, hno⟩ := h.h
      exact SqL.of hl
    · obtain ⟨t, rfl, rfl, hno⟩ := h.h
      rw [List.getElem?_map] at hv
      obtain ⟨z, hz1, rfl⟩ := Option.map_eq_some_iff.mp hv
      have ht := hz.tp z (List.mem_of_getElem? hz1)
      have a0 : atI (vR z.2) 0 = some (.int z.2.1) := rfl
      have hi : i < zs.length := (List.getElem?_eq_some_iff.mp hz1).1
      have ef : ∀ {q : Rw}, (zs.map Prod.snd).find? (fun r => r.1 == pg) = some q → fnd (zs.map Prod.snd) pg = dR q := fun e => by unfold fnd; rw [e]
      have ez : (zs.map Prod.snd).find? (fun r => r.1 == pg) = Option.map Prod.snd (zs.find? (fun z => z.2.1 == pg)) := by rw [List.find?_map]; rfl
      walk_at "rd"
      refine iteD (fun h1 => ?_) (fun h1 => ?_)
      · have h2 : z.2.1 = pg := V.int.inj h1
        have e1 : zs.find? (fun z => z.2.1 == pg) = some z := by
          rw [← List.take_append_drop i zs, List.find?_append, hno, List.drop_eq_getElem_cons hi, List.find?_cons_of_pos]
          · rw [List.getElem?_eq_getElem hi] at hz1; simpa using hz1
          · rw [List.getElem?_eq_getElem hi] at hz1; injection hz1 with e; simp [e, h2]
        walk_at "rd"
        refine k _ ?_
        rw [ef (q := z.2) (by rw [ez, e1]; rfl)]
        exact .tup (SqT.of ht) (.cons (.int _) (.cons (.int _) (.cons (.int _) (.cons (.int _) .nil))))
      · have h2 : ¬ z.2.1 = pg := fun e => h1 (congrArg V.int e)
        walk_at "rd"
        exact ⟨⟨_, rfl, rfl, by
          rw [List.take_add_one, hz1, List.find?_append, hno]; simp [h2]⟩⟩
    · obtain ⟨t, rfl, rfl, hno⟩ := h.h
      rw [List.length_map, List.take_length] at hno
      refine k _ ?_
      have e : fnd (zs.map Prod.snd) pg = .none := by
        unfold fnd
        rw [List.find?_map]
        have : zs.find? ((fun r : Rw => r.1 == pg) ∘ Prod.snd) = none := hno
        rw [this]; rfl
      rw [e]
      exact .non
def ent (m : Int) (rs : List Rw) (r : Rw) : List Rw := (if ((rs.filter fun q => !(q.1 == r.1)).length : Int) = m then (rs.filter fun q => !(q.1 == r.1)).drop 1 else rs.filter fun q => !(q.1 == r.1)) ++ [r]
def sp_entered (C : Addr) : Sp := fun vs H Q _ => ∃ (x l : Addr) (m : Int) (rs : List Rw) (r : Rw), vs = [.ref x, .int r.1, .int r.2.1, .int r.2.2.1, .int r.2.2.2] ∧ BufAt C H x l m rs ∧ (rs.length : Int) ≤ m ∧ (0 ≤ r.1 ∧ r.1 < 256) ∧ (0 ≤ r.2.1 ∧ r.2.1 < 960) ∧ (0 ≤ r.2.2.1 ∧ r.2.2.1 < 960) ∧ (0 ≤ r.2.2.2 ∧ r.2.2.2 < 65536) ∧
  ∀ (l' : Addr) (H' : Hp), H l' = none → BufAt C H' x l' m (ent m rs r) → But x H H' → Q .non H'
theorem ok_Buffer_entered (T : Txt K mg) : FnOk P w K mg base CX0 5 T.f_Buffer_entered T.fd_Buffer_entered ["self", "page", "first", "second", "word"] (sp_entered T.C_Buffer) := by
  have G_need_page := ok_need_page (P := P) (w := w) (base := base) T
  have G_need_memory_place := ok_need_memory_place (P := P) (w := w) (base := base) T
  have G_need_word := ok_need_word (P := P) (w := w) (base := base) T
  refine T.F_Buffer_entered.ok sc_Buffer_entered (fun vs H Q E h => ?_) (fun cdv A outer s H vs Q E hr h => ?_)
  · obtain ⟨x, l, m, rs, r, rfl, hd, hlm, r1, r2, r3, r4, k⟩ := h; rfl
  · obtain ⟨x, l, m, rs, r, rfl, hd, hlm, r1, r2, r3, r4, k⟩ := h
    refine ⟨_, (pss_cons (ps_expr (pe_call G_need_page (hr.mono (by decide)) rfl T.g_need_page T.F_need_page.kp T.b_need_page .nil pass0 (pa_cons (pv 1) pa_nil)))
        (pss_cons (ps_expr (pe_call G_need_memory_place (hr.mono (by decide)) rfl T.g_need_memory_place T.F_need_memory_place.kp T.b_need_memory_place .nil pass0 (pa_cons (pv 2) pa_nil)))
        (pss_cons (ps_expr (pe_call G_need_memory_place (hr.mono (by decide)) rfl T.g_need_memory_place T.F_need_memory_place.kp T.b_need_memory_place .nil pass0 (pa_cons (pv 3) pa_nil)))
        (pss_cons (ps_expr (pe_call G_need_word (hr.mono (by decide)) rfl T.g_need_word T.F_need_word.kp T.b_need_word .nil pass0 (pa_cons (pv 4) pa_nil)))
        (pss_cons (ps_setLc (i := 5) (own := [("row", 6)]) (g := gName 6) (tt := (tTest (tOp rNe (tOp (rIxT K) (tVar 6) (tC (.int 0))) (tVar 1)))) rfl sc_Buffer_entered.nd rfl rfl (sw_true rfl rfl rfl (by decide +kernel)) (pi_list (pe_fld (pv 0) rfl)) (blkOk_by (N := ["self", "page", "first", "second", "word", "rows", "row"]) (sc := defScope s_Buffer_entered) (by decide +kernel)) (fun _ _ _ _ _ => pg_name (i := 6) sc_Buffer_entered.nd rfl (Or.inl rfl)) (fun _ _ _ _ _ => pts_one (pt_cmpR op_ne (pe_ix ix_tup (pv 6) pe_int (fun _ _ => rfl)) (pv 1) (nomark _))) (fun _ _ _ _ _ => (pv 6)))
        (pss_cons (ps_if (pt_cmpR op_eq (pe_callB call_len_list (by rfl) T.m_len (by decide +kernel) (pa_cons (pv 5) pa_nil)) (pe_fld (pv 0) rfl) (nomark _))
          (pss_one (ps_expr (pe_bm PySem.F.plainAttrs_list PySem.F.slot_list_pop PySem.F.type_list_pop mt_popAt (pv 5) (pa_cons pe_int pa_nil))))
          pss_nil)
        (pss_one (ps_stop (ps_fld (pv 0) (pe_op op_cat (pv 5) (pe_lst (pa_cons (pe_tup (pa_cons (pv 1) (pa_cons (pv 2) (pa_cons (pv 3) (pa_cons (pv 4) pa_nil))))) pa_nil))) rfl))))))))), ?_⟩
    clear G_need_page G_need_memory_place G_need_word
    clear hr
    obtain ⟨dx, hx⟩ := id hd.ob
    obtain ⟨zs, hz, rfl⟩ := id hd.rw
    have c1 := T.cl_Buffer
    have n1 := T.n_Buffer_most
    have n2 := T.n_Buffer_rows
    have g1 := gt1 m l
    have g2 := gt2 m l
    have hl := hz.ls
    walk_at "rd"
    intro D hD
    have hzl : zs.length ≤ 6 := by have := hd.mb; simp at hlm; omega
    refine lc_filt zs rf (fun z => !(z.2.1 == r.1)) (SqL.of hl) hD (by omega) (fun i z H1 Qn Qy hz1 s1 kn ky => ?_) (fun H1 s1 e1 => ?_)
    · have ht := s1 _ _ (hz.tp z (List.mem_of_getElem? hz1))
      have a0 : atI (vR z.2) 0 = some (.int z.2.1) := rfl
      walk_at "rd"
      refine iteN (fun h1 => ?_) (fun h1 => ?_)
      · have h2 : ¬ z.2.1 = r.1 := fun e => h1 (congrArg V.int e)
        have q := ky (by simp [h2]) _ (L2.Same.refl _)
        walk_at "rd"
      · have h2 : z.2.1 = r.1 := V.int.inj h1
        exact kn (by simp [h2]) _ (L2.Same.refl _)
    have hx1 := s1 _ _ hx
    have efl : ((zs.map Prod.snd).filter fun q => !(q.1 == r.1)) = (zs.filter fun z => !(z.2.1 == r.1)).map Prod.snd := by rw [List.filter_map]; rfl
    have hmem : ∀ z ∈ (zs.filter fun z => !(z.2.1 == r.1)), z ∈ zs := fun z h => (List.mem_filter.mp h).1
    have hfl : (zs.filter fun z => !(z.2.1 == r.1)).length ≤ 6 := Nat.le_trans (List.length_filter_le _ _) hzl
    unfold ent at k
    rw [efl, List.length_map] at k
    generalize (zs.filter fun z => !(z.2.1 == r.1)) = fs at e1 k hmem hfl
    walk_at "rd"
    refine iteD (fun h1 => ?_) (fun h1 => ?_)
    · have h2 : (fs.length : Int) = m := by have := V.int.inj h1; simpa using this
      rw [if_pos h2] at k
      obtain ⟨f0, fr, rfl⟩ : ∃ f0 fr, fs = f0 :: fr := by
        cases fs with
        | nil => have := hd.mb; simp at h2; omega
        | cons a b => exact ⟨a, b, rfl⟩
      have si : seqIndex? 0 ((f0 :: fr).map rf).length = some 0 := by unfold seqIndex?; simp
      have g0 : ((f0 :: fr).map rf)[0]? = some (rf f0) := rfl
      walk_at "rd"
      have Dx : D ≠ x := Ne.symm (ne_of_none hx hD)
      have hx2 : (upd H1 D (.lst (((f0 :: fr).map rf).eraseIdx 0))) x = some (.ins T.C_Buffer dx (F2 m l)) := by rw [upd_ne (Ne.symm Dx)]; exact hx1
      have s2 : Same H (upd H1 D (.lst (((f0 :: fr).map rf).eraseIdx 0))) := same_set s1 hD
      have e2 : (upd H1 D (.lst (((f0 :: fr).map rf).eraseIdx 0))) D = some (.lst (fr.map rf)) := upd_same
      have hm2 : ∀ z ∈ fr, z ∈ zs := fun z h => hmem z (List.mem_cons_of_mem _ h)
      have ek : ((f0 :: fr).map Prod.snd).drop 1 = fr.map Prod.snd := rfl
      rw [ek] at k
      have hl2 : fr.length ≤ 6 := by simp at hfl; omega
      generalize upd H1 D (.lst (((f0 :: fr).map rf).eraseIdx 0)) = H3 at hx2 s2 e2 ⊢
      clear hx1 s1 e1 hmem hfl si g0
      generalize fr = gs at e2 hm2 hl2 k
      walk_at "rd"
      intro t ht
      walk_at "rd"
      intro o ho
      have hz9 : (gs.map rf).length + [V.ref t].length ≤ sizeLine := size_le (by simp; omega)
      walk_at "rd"
      intro l' hl'
      have S5 : Same H (upd (upd (upd H3 t (.tup (vR r))) o (.lst [.ref t])) l' (.lst (gs.map rf ++ [.ref t]))) := Hx.Same.upd (Hx.Same.upd (Hx.Same.upd s2 ht) ho) hl'
      have hf' := (Hx.Same.upd (Hx.Same.upd s2 ht) ho).free hl'
      have ht0 := s2.free ht
      have lx := Ne.symm (ne_of_none hx hf')
      have tt4 : (upd (upd (upd H3 t (.tup (vR r))) o (.lst [.ref t])) l' (.lst (gs.map rf ++ [.ref t]))) t = some (.tup (vR r)) := old_upd hl' (old_upd ho upd_same)
      walk_at "rd"
      refine ⟨?_⟩
      rw [pu2]
      refine k l' _ hf' ⟨⟨dx, upd_same⟩, ⟨gs ++ [(t, r)], ⟨by rw [upd_ne lx, upd_same, List.map_append]; rfl, fun z h => ?_⟩, by rw [List.map_append]; rfl⟩, hd.mb⟩ ((But.same S5).trans But.set)
      rcases List.mem_append.mp h with h | h
      · have e := hz.tp z (hm2 z h)
        rw [upd_ne (fun q => by rw [q, hx] at e; cases e)]; exact S5 _ _ e
      · simp at h
        subst h
        rw [upd_ne (Ne.symm (ne_of_none hx ht0))]; exact tt4
    · have h2 : ¬ (fs.length : Int) = m := fun e => h1 (congrArg V.int (by simpa using e))
      rw [if_neg h2] at k
      walk_at "rd"
      intro t ht
      walk_at "rd"
      intro o ho
      have hz9 : (fs.map rf).length + [V.ref t].length ≤ sizeLine := size_le (by simp; omega)
      walk_at "rd"
      intro l' hl'
      have S5 : Same H (upd (upd (upd H1 t (.tup (vR r))) o (.lst [.ref t])) l' (.lst (fs.map rf ++ [.ref t]))) := Hx.Same.upd (Hx.Same.upd (Hx.Same.upd s1 ht) ho) hl'
      have hf' := (Hx.Same.upd (Hx.Same.upd s1 ht) ho).free hl'
      have ht0 := s1.free ht
      have lx := Ne.symm (ne_of_none hx hf')
      have tt4 : (upd (upd (upd H1 t (.tup (vR r))) o (.lst [.ref t])) l' (.lst (fs.map rf ++ [.ref t]))) t = some (.tup (vR r)) := old_upd hl' (old_upd ho upd_same)
      walk_at "rd"
      refine ⟨?_⟩
      rw [pu2]
      refine k l' _ hf' ⟨⟨dx, upd_same⟩, ⟨fs ++ [(t, r)], ⟨by rw [upd_ne lx, upd_same, List.map_append]; rfl, fun z h => ?_⟩, by rw [List.map_append]; rfl⟩, hd.mb⟩ ((But.same S5).trans But.set)
      rcases List.mem_append.mp h with h | h
      · have e := hz.tp z (hmem z h)
        rw [upd_ne (fun q => by rw [q, hx] at e; cases e)]; exact S5 _ _ e
      · simp at h
        subst h
        rw [upd_ne (Ne.symm (ne_of_none hx ht0))]; exact tt4
def stor (rs : List Rw) (p : Int) : List Rw := rs.filter fun q => !(q.2.1 == p || q.2.2.1 == p)
def sp_stored (C : Addr) : Sp := fun vs H Q _ => ∃ (x l : Addr) (m : Int) (rs : List Rw) (p : Int), vs = [.ref x, .int p] ∧ BufAt C H x l m rs ∧ (rs.length : Int) ≤ m ∧ (0 ≤ p ∧ p < 1024) ∧
  ∀ (l' : Addr) (H' : Hp), H l' = none → BufAt C H' x l' m (stor rs p) → But x H H' → Q .non H'
theorem ok_Buffer_stored (T : Txt K mg) : FnOk P w K mg base CX0 5 T.f_Buffer_stored T.fd_Buffer_stored ["self", "place"] (sp_stored T.C_Buffer) := by
  have G_need_place := ok_need_place (P := P) (w := w) (base := base) T
  refine T.F_Buffer_stored.ok sc_Buffer_stored (fun vs H Q E h => ?_) (fun cdv A outer s H vs Q E hr h => ?_)
  · obtain ⟨x, l, m, rs, p, rfl, hd, hlm, hp, k⟩ := h; rfl
  · obtain ⟨x, l, m, rs, p, rfl, hd, hlm, hp, k⟩ := h
    refine ⟨_, (pss_cons (ps_expr (pe_call G_need_place (hr.mono (by decide)) rfl T.g_need_place T.F_need_place.kp T.b_need_place .nil pass0 (pa_cons (pv 1) pa_nil)))
        (pss_one (ps_stop (ps_fld (pv 0) (pe_lc (own := [("row", 2)]) (g := gName 2) (tt := (tTest (tOp (rIn K true) (tVar 1) (tSl (rSlT K) (tVar 2) (tPart (tC (.int 1))) (tPart (tC (.int 3))))))) rfl sc_Buffer_stored.nd (pi_list (pe_fld (pv 0) rfl)) (blkOk_by (N := ["self", "place", "row"]) (sc := defScope s_Buffer_stored) (by decide +kernel)) (fun _ _ _ _ _ => pg_name (i := 2) sc_Buffer_stored.nd rfl (Or.inl rfl)) (fun _ _ _ _ _ => pts_one (pt_cmpR op_notIn_seq (pv 1) (pe_slice sl_tup (pv 2) (po_some pe_int) (po_some pe_int)) (by rfl))) (fun _ _ _ _ _ => (pv 2))) rfl)))), ?_⟩
    clear G_need_place
    clear hr
    obtain ⟨dx, hx⟩ := id hd.ob
    obtain ⟨zs, hz, rfl⟩ := id hd.rw
    have c1 := T.cl_Buffer
    have n2 := T.n_Buffer_rows
    have g2 := gt2 m l
    have hl := hz.ls
    have hzl : zs.length ≤ 6 := by have := hd.mb; simp at hlm; omega
    walk_at "rd"
    intro D hD
    refine lc_filt zs rf (fun z => !(z.2.2.1 == p || z.2.2.2.1 == p)) (SqL.of hl) hD (by omega) (fun i z H1 Qn Qy hz1 s1 kn ky => ?_) (fun H1 s1 e1 => ?_)
    · have ht := s1 _ _ (hz.tp z (List.mem_of_getElem? hz1))
      have sx : ¬(HT.sIx (vR z.2).length 0 (some 1) = 0 ∧ HT.sIx (vR z.2).length (vR z.2).length (some 3) = (vR z.2).length) := by
        show ¬(HT.sIx 4 0 (some 1) = 0 ∧ HT.sIx 4 4 (some 3) = 4)
        decide
      have ec : cutV (vR z.2) (some 1) (some 3) = [.int z.2.2.1, .int z.2.2.2.1] := rfl
      walk_at "rd"
      intro t ht2
      rw [ec]
      walk_at "rd"
      · exact Or.inr (SqT.of upd_same)
      walk_at "rd"
      have ei : (if true = true then !inV (V.int p) [V.int z.2.2.1, V.int z.2.2.2.1] else inV (V.int p) [V.int z.2.2.1, V.int z.2.2.2.1]) = !(z.2.2.1 == p || z.2.2.2.1 == p) := by
        rw [if_pos rfl]
        simp [inV, eqV]
      rw [ei]
      by_cases hq : (!(z.2.2.1 == p || z.2.2.2.1 == p)) = true
      · have q : Qy (rf z) (upd H1 t (.tup [V.int z.2.2.1, V.int z.2.2.2.1])) := ky hq _ (same_upd ht2)
        rw [hq]
        refine iteT ?_
        walk_at "rd"
      · rw [Bool.not_eq_true] at hq
        rw [hq]
        exact iteF (kn hq _ (same_upd ht2))
    walk_at "rd"
    refine ⟨?_⟩
    rw [pu2]
    refine k D _ hD ⟨⟨dx, upd_same⟩, ⟨_, ⟨by rw [upd_ne (Ne.symm (ne_of_none hx hD))]; exact e1, fun z h => ?_⟩, ?_⟩, hd.mb⟩ ((But.same s1).trans But.set)
    · have e := hz.tp z (List.mem_filter.mp h).1
      rw [upd_ne (fun q => by rw [q, hx] at e; cases e)]; exact s1 _ _ e
    · unfold stor; rw [List.filter_map]; rfl
theorem eraseIdx_mp {α β : Type} (f : α → β) : ∀ (l : List α) (i : Nat), (l.map f).eraseIdx i = (l.eraseIdx i).map f
  | [], _ => rfl
  | _ :: _, 0 => rfl
  | a :: r, i + 1 => by simp [List.eraseIdx, eraseIdx_mp f r i]
def sp_out (C : Addr) : Sp := fun vs H Q _ => ∃ (x l : Addr) (m : Int) (rs : List Rw) (i : Nat), vs = [.ref x, .int (i : Int)] ∧ BufAt C H x l m rs ∧ i < 1000 ∧ (rs.length : Int) ≤ m ∧
  ∀ (H' : Hp), BufAt C H' x l m (rs.eraseIdx i) → But l H H' → Q .non H'
theorem ok_Buffer_out (T : Txt K mg) : FnOk P w K mg base CX0 3 T.f_Buffer_out T.fd_Buffer_out ["self", "position"] (sp_out T.C_Buffer) := by
  have G_is_count := ok_is_count (P := P) (w := w) (base := base) T
  refine T.F_Buffer_out.ok sc_Buffer_out (fun vs H Q E h => ?_) (fun cdv A outer s H vs Q E hr h => ?_)
  · obtain ⟨x, l, m, rs, i, rfl, hd, hi, hlm, k⟩ := h; rfl
  · obtain ⟨x, l, m, rs, i, rfl, hd, hi, hlm, k⟩ := h
    refine ⟨_, (pss_cons (ps_if (pt_not (pt_val (pe_call G_is_count (hr.mono (by decide)) rfl T.g_is_count T.F_is_count.kp T.b_is_count .nil pass0 (pa_cons (pv 1) pa_nil))))
          (pss_one ps_never)
          pss_nil)
        (pss_one (ps_if (pt_cmpR op_lt (pv 1) (pe_callB call_len_list (by rfl) T.m_len (by decide +kernel) (pa_cons (pe_fld (pv 0) rfl) pa_nil)) (nomark _))
          (pss_one (ps_expr (pe_bm PySem.F.plainAttrs_list PySem.F.slot_list_pop PySem.F.type_list_pop mt_popAt (pe_fld (pv 0) rfl) (pa_cons (pv 1) pa_nil))))
          pss_nil))), ?_⟩
    clear G_is_count
    clear hr
    obtain ⟨dx, hx⟩ := id hd.ob
    obtain ⟨zs, hz, rfl⟩ := id hd.rw
    have c1 := T.cl_Buffer
    have n2 := T.n_Buffer_rows
    have g2 := gt2 m l
    have hl := hz.ls
    walk_at "rd"
    refine iteD (fun h1 => ?_) (fun h1 => ?_)
    · have h2 : i < zs.length := by simpa using h1
      have si : seqIndex? (i : Int) (zs.map rf).length = some i := by
        unfold seqIndex?
        simp
        omega
      have g0 : (zs.map rf)[i]? = some (rf zs[i]) := by rw [List.getElem?_map, List.getElem?_eq_getElem h2]; rfl
      walk_at "rd"
      have xl := hd.xl
      refine k _ ⟨⟨dx, by rw [upd_ne (Ne.symm xl)]; exact hx⟩, ⟨zs.eraseIdx i, ⟨by rw [upd_same, eraseIdx_mp], fun z h => ?_⟩, by rw [eraseIdx_mp]⟩, hd.mb⟩ But.set
      have e := hz.tp z (List.mem_of_mem_eraseIdx h)
      rw [upd_ne (fun q => by rw [q, hl] at e; cases e)]; exact e
    · have h2 : ¬ i < zs.length := by simpa using h1
      walk_at "rd"
      refine k H ?_ (But.refl _)
      rw [List.eraseIdx_of_length_le (by simp; omega)]
      exact hd
def sp_cleared (C : Addr) : Sp := fun vs H Q _ => ∃ (x l : Addr) (m : Int) (rs : List Rw), vs = [.ref x] ∧ BufAt C H x l m rs ∧
  ∀ (l' : Addr) (H' : Hp), H l' = none → BufAt C H' x l' m [] → But x H H' → Q .non H'
theorem ok_Buffer_cleared (T : Txt K mg) : FnOk P w K mg base CX0 1 T.f_Buffer_cleared T.fd_Buffer_cleared ["self"] (sp_cleared T.C_Buffer) := by
  refine T.F_Buffer_cleared.ok sc_Buffer_cleared (fun vs H Q E h => ?_) (fun cdv A outer s H vs Q E hr h => ?_)
  · obtain ⟨x, l, m, rs, rfl, hd, k⟩ := h; rfl
  · obtain ⟨x, l, m, rs, rfl, hd, k⟩ := h
    refine ⟨_, (pss_one (ps_stop (ps_fld (pv 0) (pe_lst pa_nil) rfl))), ?_⟩
    clear hr
    obtain ⟨dx, hx⟩ := id hd.ob
    have c1 := T.cl_Buffer
    have n2 := T.n_Buffer_rows
    walk_at "rd"
    intro l' hl'
    have lx : l' ≠ x := Ne.symm (ne_of_none hx hl')
    walk_at "rd"
    refine ⟨?_⟩
    rw [pu2]
    exact k l' _ hl' ⟨⟨dx, upd_same⟩, ⟨[], ⟨by rw [upd_ne lx]; exact upd_same, fun z hz => nomatch hz⟩, rfl⟩, hd.mb⟩ ((But.same (same_upd hl')).trans But.set)
def sp_copy (C : Addr) : Sp := fun vs H Q _ => ∃ (x l : Addr) (m : Int) (rs : List Rw), vs = [.ref x] ∧ BufAt C H x l m rs ∧
  ∀ (x' l' : Addr) (H' : Hp), H x' = none → H l' = none → BufAt C H' x' l' m rs → Same H H' → Q (.ref x') H'
theorem ok_Buffer_copy (T : Txt K mg) : FnOk P w K mg base CX0 6 T.f_Buffer_copy T.fd_Buffer_copy ["self"] (sp_copy T.C_Buffer) := by
  have G_Buffer_init := ok_Buffer_init (P := P) (w := w) (base := base) T
  refine T.F_Buffer_copy.ok sc_Buffer_copy (fun vs H Q E h => ?_) (fun cdv A outer s H vs Q E hr h => ?_)
  · obtain ⟨x, l, m, rs, rfl, hd, k⟩ := h; rfl
  · obtain ⟨x, l, m, rs, rfl, hd, k⟩ := h
    refine ⟨_, (pss_cons (ps_set (i := 1) sc_Buffer_copy.nd rfl (Or.inl rfl) (pe_make T.mk_Buffer G_Buffer_init (hr.mono (by decide)) rfl T.g_Buffer T.b_Buffer_init .nil pass0 (pa_cons (pe_fld (pv 0) rfl) pa_nil)))
        (pss_cons (ps_stop (ps_fld (pv 1) (pe_callTy call_list_of (by rfl) T.m_list (by decide +kernel) (pa_cons (pe_fld (pv 0) rfl) pa_nil)) rfl))
        (pss_one (ps_ret (pv 1))))), ?_⟩
    clear G_Buffer_init
    clear hr
    obtain ⟨dx, hx⟩ := id hd.ob
    obtain ⟨zs, hz, rfl⟩ := id hd.rw
    have c1 := T.cl_Buffer
    have n1 := T.n_Buffer_most
    have n2 := T.n_Buffer_rows
    have g1 := gt1 m l
    have g2 := gt2 m l
    have hl := hz.ls
    have hm := hd.mb
    walk_at "rd"
    intro x' dx' nx ndx nex
    have nx' : upd H dx' (.own x') x' = none := by rw [upd_ne (Ne.symm nex)]; exact nx
    have sm : Same H (upd (upd H dx' (.own x')) x' (.ins T.C_Buffer dx' [])) := Hx.Same.upd (same_upd ndx) nx'
    walk_at "rd"
    intro l' H2 fl hw bt
    obtain ⟨dx2, hx2⟩ := id hw.ob
    have s2 : Same H H2 := fun b u e => bt b u (ne_of_none e nx) (sm _ _ e)
    have hx3 := s2 _ _ hx
    have hl3 := s2 _ _ hl
    walk_at "rd"
    intro p hp
    have px : p ≠ x' := Ne.symm (ne_of_none hx2 hp)
    walk_at "rd"
    refine ⟨?_⟩
    rw [pu2]
    walk_at "rd"
    refine k x' p _ nx (s2.free hp) ⟨⟨dx2, upd_same⟩, ⟨zs, ⟨?_, fun z h => ?_⟩, rfl⟩, hm⟩ (same_set (L2.Same.trans s2 (same_upd hp)) nx)
    · rw [upd_ne px]; exact upd_same
    · have e := hz.tp z h
      rw [upd_ne (ne_of_none e nx)]; exact old_upd hp (s2 _ _ e)
def rD (rs : List Rw) : PyData := .list (rs.map dR)
theorem dp_rw {K : PySem.W.Frag} {H : Hp} : ∀ zs : List (Addr × Rw), (∀ z ∈ zs, H z.1 = some (.tup (vR z.2))) → DpAll K H (zs.map rf) ((zs.map Prod.snd).map dR)
  | [], _ => .nil
  | z :: r, h => .cons (.tup (SqT.of (h z List.mem_cons_self)) (.cons (.int _) (.cons (.int _) (.cons (.int _) (.cons (.int _) .nil))))) (dp_rw r fun y hy => h y (List.mem_cons_of_mem _ hy))
theorem LR.dp {K : PySem.W.Frag} {H : Hp} {l : Addr} {rs : List Rw} (h : LR H l rs) : Dp K H (.ref l) (rD rs) := by
  obtain ⟨zs, hz, rfl⟩ := h
  exact .lst (SqL.of hz.ls) (dp_rw zs hz.tp)
theorem dR_flat (r : Rw) : FlatD 1 (dR r) := flat_tup (n := 0) fun d hd => by
  simp at hd
  rcases hd with rfl | rfl | rfl | rfl <;> exact flat_int 0 _
theorem rD_sh (rs : List Rw) : SeqAt.shaped (rD rs) = true := flat_sh (n := 2) (flat_list (n := 1) fun d hd => by
  obtain ⟨r, _, rfl⟩ := List.mem_map.mp hd
  exact dR_flat r)
theorem kit_self {K : PySem.W.Frag} {C : Addr} : PySem.W.kitOne K (.ref C) (.ref C) = some true := if_pos (beq_self_eq_true _)
/-- of two buffers, or of one and a list -/
def sp_eqB (C : Addr) : Sp := fun vs H Q _ => ∃ (x l : Addr) (m : Int) (rs : List Rw) (b : Addr), vs = [.ref x, .ref b] ∧ BufAt C H x l m rs ∧
  ((∃ (l' : Addr) (m' : Int) (rs' : List Rw), BufAt C H b l' m' rs' ∧ Q (.bl (decide (m = m') && PyData.eqv (rD rs) (rD rs'))) H)
  ∨ (∃ (xs : List V), H b = some (.lst xs) ∧ Q (.bl false) H))
theorem ok_Buffer_eq (T : Txt K mg) : FnOk P w K mg base CX0 1 T.f_Buffer_eq T.fd_Buffer_eq ["self", "other"] (sp_eqB T.C_Buffer) := by
  refine T.F_Buffer_eq.ok sc_Buffer_eq (fun vs H Q E h => ?_) (fun cdv A outer s H vs Q E hr h => ?_)
  · obtain ⟨x, l, m, rs, b, rfl, hd, k⟩ := h; rfl
  · obtain ⟨x, l, m, rs, b, rfl, hd, k⟩ := h
    refine ⟨_, (pss_one (ps_ret (pe_and (pe_callB call_isi (by rfl) T.m_isinstance (by decide +kernel) (pa_cons (pv 1) (pa_cons (pe_glob (v := .ref T.C_Buffer) rfl T.g_Buffer rfl) pa_nil))) (pe_and (pe_cmpR op_eq (pe_fld (pv 0) rfl) (pe_fld (pv 1) rfl) (nomark _)) (pe_one (pe_cmpR (op_eqD hr.units) (pe_fld (pv 0) rfl) (pe_fld (pv 1) rfl) (nomark _))))))), ?_⟩
    clear hr
    obtain ⟨dx, hx⟩ := id hd.ob
    have c1 := T.cl_Buffer
    have n1 := T.n_Buffer_most
    have n2 := T.n_Buffer_rows
    have g1 := gt1 m l
    have g2 := gt2 m l
    have cv : ClsV (.ref T.C_Buffer) (.ref T.C_Buffer) := .own _
    rcases k with ⟨l', m', rs', hd', k⟩ | ⟨xs, hb, k⟩
    · obtain ⟨dx', hx'⟩ := id hd'.ob
      have g1' := gt1 m' l'
      have g2' := gt2 m' l'
      have L1 : Dp K H (.ref l) (rD rs) := hd.rw.dp
      have L2 : Dp K H (.ref l') (rD rs') := hd'.rw.dp
      have S1 := rD_sh rs
      have S2 := rD_sh rs'
      have ty : TyX K H (.ref b) (.ref T.C_Buffer) := .base (.ins hx' c1 T.ic_Buffer T.in_Buffer T.it_Buffer T.im_Buffer)
      have ks : PySem.W.kitOne K (.ref T.C_Buffer) (.ref T.C_Buffer) = some true := kit_self
      walk_at "rd"
      refine iteD (fun h => ?_) (fun h => ?_)
      · walk_at "rd"
        exact qbl k (by rw [decide_eq_true (V.int.inj h)]; rfl)
      · exact qbl k (by rw [decide_eq_false (fun z => h (congrArg V.int z))]; rfl)
    · have ty : TyX K H (.ref b) (.type "list") := .base (.lst hb)
      have ks : PySem.W.kitOne K (.type "list") (.ref T.C_Buffer) = some false := kit_not T.ik_Buffer T.ty_Buffer T.sl_Buffer
      walk_at "rd"
end
end K56

set_option Elab.async false
set_option linter.all false
set_option maxRecDepth 100000
set_option maxHeartbeats 8000000

namespace K56
open PySem PySem.Spec PyProof.Rows L2 Hx 
local macro_rules | `(tactic| walk_at "sm") => `(tactic| repeat' (first | assumption | apply Hx.Same.upd | exact L2.Same.refl _ | apply same_trans'))
local macro_rules | `(tactic| walk_at "hp") => `(tactic| repeat' (first | assumption | exact upd_same | apply old_upd | apply same_at))
local macro_rules | `(tactic| walk_at "rd") => `(tactic| repeat' (first | rfl | apply Exists.intro | apply And.intro | refine iteT ?_ | refine iteF ?_ | exact upd_same | exact SqL.of (by assumption) | exact SqL.of upd_same | exact SqT.of upd_same | exact SqT.of (by assumption) | ((with_reducible show (_ : Int) < _); omega) | ((with_reducible show (_ : Int) ≤ _); omega) | (show (_ : Prop); assumption) | exact Or.inl ⟨_, by assumption, rfl⟩ | exact Or.inl ⟨rfl, _, SqL.of (by assumption)⟩ | exact Or.inl ⟨rfl, _, SqL.of upd_same⟩ | apply old_upd | apply Hx.SqL.new | apply tyl_new | apply Pot.new | exact same_at (by assumption) (by assumption) | exact Or.inl (SqL.of (by assumption)) | exact Or.inl (by assumption) | exact Or.inl (SqL.of upd_same) | exact size_le (Nat.le_of_ble_eq_true rfl) | exact Nat.le_of_ble_eq_true rfl | exact True.intro | exact Or.inl rfl | exact Or.inr rfl | (show (_ : Prop); omega) | (show (_ : Prop); dsimp only; omega) | exact mulw64 (by omega) (by omega) | exact mulw64 (by (try dsimp only); omega) (by (try dsimp only); omega)))

section
variable {P : Program} {w : World} {K : PySem.W.Frag} {mg : Str → Option Value} {base : Heap}
def sp_Lpot (K : PySem.W.Frag) : Sp := fun vs H Q _ => ∃ (a : Addr) (ns : List Int), vs = [.ref a, .int 0] ∧ SqL K H a (ns.map V.int) ∧ ns.length ≤ 63 ∧ ∀ p (H' : Hp), H p = none → Same H H' → Pot H' p → Q (.ref p) H'
theorem ok_Lpot (T : Txt K mg) : FnOk P w K mg base CX0 1 T.f_Lpot T.fd_Lpot ["_law_script", "_law_k"] (sp_Lpot K) := by
  refine T.F_Lpot.ok sc_Lpot (fun vs H Q E h => ?_) (fun cdv A outer s H vs Q E hr h => ?_)
  · obtain ⟨a, ns, rfl, hS, hl, k⟩ := h; rfl
  · obtain ⟨a, ns, rfl, hS, hl, k⟩ := h
    refine ⟨_, (pss_cons (ps_set (i := 2) sc_Lpot.nd rfl (Or.inl rfl) (pe_ifExp (pt_cmpR op_lt (pv 1) (pe_callB call_len_list (by rfl) T.m_len (by decide +kernel) (pa_cons (pv 0) pa_nil)) (nomark _)) (pe_callB call_abs (by rfl) T.m_abs (by decide +kernel) (pa_cons (pe_ix ix_list (pv 0) (pv 1) (fun _ _ => rfl)) pa_nil)) (pe_op op_add (pe_op op_mulW pe_int (pv 1)) pe_int)))
        (pss_cons (ps_set (i := 3) sc_Lpot.nd rfl (Or.inl rfl) (pe_op op_add (pe_op op_mod (pe_callTy call_int1i (by rfl) T.m_int (by decide +kernel) (pa_cons (pe_op op_add (pe_op op_add (pe_op op_mulW (pe_op op_mod (pe_callTy call_int1i (by rfl) T.m_int (by decide +kernel) (pa_cons (pv 2) pa_nil)) pe_int) pe_int) (pe_op op_mulW pe_int (pv 1))) pe_int) pa_nil)) pe_int) pe_int))
        (pss_one (ps_ret (pe_lst (pa_cons (pe_callB (call_max2 rfl) (by rfl) T.m_max (by decide +kernel) (pa_cons pe_int (pa_cons (pe_op op_sub (pv 2) (pe_op op_pow pe_int pe_int)) pa_nil))) (pa_cons (pv 3) pa_nil))))))), ?_⟩
    clear hr
    walk_at "rd"
    refine iteD (fun h => ?_) (fun h => ?_)
    · obtain ⟨v, hv, hm⟩ := pick_at (xs := ns.map V.int) (d := 0) (by omega) (by omega)
      obtain ⟨z, _, rfl⟩ := List.mem_map.mp hm
      walk_at "rd"
      intro p hp
      exact k p _ hp (same_upd hp) ⟨_, _, upd_same, by split <;> omega, by omega, by omega⟩
    · walk_at "rd"
      intro p hp
      exact k p _ hp (same_upd hp) ⟨_, _, upd_same, by split <;> omega, by omega, by omega⟩

theorem ok_Ldraw (T : Txt K mg) : FnOk P w K mg base CX0 1 T.f_Ldraw T.fd_Ldraw ["_law_pot_here", "_law_many"] (spDraw) := by
  refine T.F_Ldraw.ok sc_Ldraw (fun vs H Q E h => ?_) (fun cdv A outer s H vs Q E hr h => ?_)
  · obtain ⟨a, n, rfl, ⟨x, y, e, hx, hy, hy2⟩, hn, hn2, k⟩ := h; rfl
  · obtain ⟨a, n, rfl, ⟨x, y, e, hx, hy, hy2⟩, hn, hn2, k⟩ := h
    refine ⟨_, (pss_cons (ps_if (pt_cmpR op_gt (pe_ix ix_list (pv 0) pe_int (fun _ _ => rfl)) pe_int (nomark _))
          (pss_cons (ps_asg (pe_callB call_divmod (by rfl) T.m_divmod (by decide +kernel) (pa_cons (pe_ix ix_list (pv 0) pe_int (fun _ _ => rfl)) (pa_cons (pv 1) pa_nil))) (pg_tup rfl (pgs_cons (pg_sub (pv 0) pe_int set_list) (pgs_cons (pg_name (i := 2) sc_Ldraw.nd rfl (Or.inl rfl)) pgs_nil))))
          (pss_one (ps_ret (pv 2))))
          pss_nil)
        (pss_cons (ps_asg (pe_op op_mod (pe_callTy call_int1i (by rfl) T.m_int (by decide +kernel) (pa_cons (pe_op op_mulW (pe_ix ix_list (pv 0) pe_int (fun _ _ => rfl)) pe_int) pa_nil)) pe_int) (pg_sub (pv 0) pe_int set_list))
        (pss_one (ps_ret (pe_op op_mod (pe_callTy call_int1i (by rfl) T.m_int (by decide +kernel) (pa_cons (pe_op op_fdiv (pe_ix ix_list (pv 0) pe_int (fun _ _ => rfl)) pe_int) pa_nil)) (pv 1)))))), ?_⟩
    clear hr
    walk_at "rd"
    refine iteD (fun h => ?_) (fun h => ?_)
    · walk_at "rd"
      intro p hp
      have ne : a ≠ p := fun z => by rw [← z, e] at hp; cases hp
      walk_at "rd"
      exact k (x % n) _ (Int.emod_nonneg _ (by omega)) (Int.emod_lt_of_pos _ hn) ⟨_, _, upd_same, Int.ediv_nonneg hx (by omega), hy, hy2⟩ (fun b o nb hb => by rw [upd_ne nb]; exact same_upd hp b o hb)
    · walk_at "rd"
      exact k _ _ (Int.emod_nonneg _ (by omega)) (Int.emod_lt_of_pos _ hn) ⟨_, _, upd_same, hx, by omega, by omega⟩ But.set
end
end K56

set_option Elab.async false
set_option linter.all false
set_option maxRecDepth 100000
set_option maxHeartbeats 8000000

namespace K56
open PySem PySem.Spec PyProof.Rows L2 Hx 
local macro_rules | `(tactic| walk_at "sm") => `(tactic| repeat' (first | assumption | apply Hx.Same.upd | exact L2.Same.refl _ | apply same_trans'))
local macro_rules | `(tactic| walk_at "hp") => `(tactic| repeat' (first | assumption | exact upd_same | apply old_upd | apply same_at))
local macro_rules | `(tactic| walk_at "rd") => `(tactic| repeat' (first | rfl | apply Exists.intro | apply And.intro | refine iteT ?_ | refine iteF ?_ | exact upd_same | exact SqL.of (by assumption) | exact SqL.of upd_same | exact SqT.of upd_same | exact SqT.of (by assumption) | ((with_reducible show (_ : Int) < _); omega) | ((with_reducible show (_ : Int) ≤ _); omega) | (show (_ : Prop); assumption) | exact Or.inl ⟨_, by assumption, rfl⟩ | exact Or.inl ⟨rfl, _, SqL.of (by assumption)⟩ | exact Or.inl ⟨rfl, _, SqL.of upd_same⟩ | apply old_upd | apply Hx.SqL.new | apply tyl_new | apply Pot.new | exact same_at (by assumption) (by assumption) | exact Or.inl (SqL.of (by assumption)) | exact Or.inl (by assumption) | exact Or.inl (SqL.of upd_same) | exact size_le (Nat.le_of_ble_eq_true rfl) | exact Nat.le_of_ble_eq_true rfl | exact True.intro | exact Or.inl rfl | exact Or.inr rfl | (show (_ : Prop); omega) | (show (_ : Prop); dsimp only; omega) | exact mulw64 (by omega) (by omega) | exact mulw64 (by (try dsimp only); omega) (by (try dsimp only); omega)))

section
variable {P : Program} {w : World} {K : PySem.W.Frag} {mg : Str → Option Value} {base : Heap}
def Out (S : List Addr) (H H' : Hp) : Prop := ∀ b u, b ∉ S → H b = some u → H' b = some u
theorem Out.trans {S : List Addr} {H H1 H2 : Hp} (x : Out S H H1) (y : Out S H1 H2) : Out S H H2 := fun b u n e => y b u n (x b u n e)
theorem Out.but {a : Addr} {S : List Addr} {H H' : Hp} (b : But a H H') (h : a ∈ S) : Out S H H' := fun c u n e => b c u (fun z => n (z ▸ h)) e
theorem Out.same {S : List Addr} {H H' : Hp} (s : Same H H') : Out S H H' := fun b u _ e => s b u e
structure Good (m : Int) (rs : List Rw) : Prop where
  le : (rs.length : Int) ≤ m
  nd : (rs.map fun r => r.1).Nodup
  rg : ∀ r ∈ rs, (0 ≤ r.1 ∧ r.1 < 256) ∧ (0 ≤ r.2.1 ∧ r.2.1 < 960) ∧ (0 ≤ r.2.2.1 ∧ r.2.2.1 < 960) ∧ (0 ≤ r.2.2.2 ∧ r.2.2.2 < 65536)
theorem Good.sub {m : Int} {rs rs' : List Rw} (h : Good m rs) (s : rs'.Sublist rs) : Good m rs' :=
  ⟨by have a := h.le; have b := s.length_le; omega, (s.map _).nodup h.nd, fun r hr => h.rg r (s.subset hr)⟩
theorem good_ent {m : Int} {rs : List Rw} {r : Rw} (h : Good m rs) (hm : 1 ≤ m) (g : (0 ≤ r.1 ∧ r.1 < 256) ∧ (0 ≤ r.2.1 ∧ r.2.1 < 960) ∧ (0 ≤ r.2.2.1 ∧ r.2.2.1 < 960) ∧ (0 ≤ r.2.2.2 ∧ r.2.2.2 < 65536)) : Good m (ent m rs r) := by
  have f1 := h.sub (List.filter_sublist (l := rs) (p := fun q => !(q.1 == r.1)))
  have f2 : ∀ q ∈ (rs.filter fun q => !(q.1 == r.1)), q.1 ≠ r.1 := fun q hq => by simpa using (List.mem_filter.mp hq).2
  unfold ent
  generalize (rs.filter fun q => !(q.1 == r.1)) = f at f1 f2
  have f3 : ∃ g, Good m g ∧ (g.length : Int) + 1 ≤ m ∧ (∀ q ∈ g, q.1 ≠ r.1) ∧ (if (f.length : Int) = m then f.drop 1 else f) = g := by
    have le := f1.le
    by_cases e : (f.length : Int) = m
    · exact ⟨f.drop 1, f1.sub (List.drop_sublist _ _), by simp; omega, fun q hq => f2 q (List.mem_of_mem_drop hq), if_pos e⟩
    · exact ⟨f, f1, by omega, f2, if_neg e⟩
  obtain ⟨g', g1, g2, g3, ge⟩ := f3
  rw [ge]
  refine ⟨by simp; omega, ?_, fun q hq => ?_⟩
  · rw [List.map_append, List.nodup_append]
    refine ⟨g1.nd, by simp, fun a ha b hb => ?_⟩
    obtain ⟨q, hq, rfl⟩ := List.mem_map.mp ha
    simp at hb
    rw [hb]
    exact g3 q hq
  · rcases List.mem_append.mp hq with hq | hq
    · exact g1.rg q hq
    · simp at hq
      rw [hq]; exact g
/-- p the pot; x the buffer, l its list; a the law's own list -/
structure Core (C : Addr) (H : Hp) (p x l a : Addr) (m : Int) (rs : List Rw) : Prop where
  pot : Pot H p
  buf : BufAt C H x l m rs
  law : LR H a rs
  al : a ≠ l
  good : Good m rs
theorem LR.out {H H' : Hp} {a : Addr} {rs : List Rw} {S : List Addr} (h : LR H a rs) (o : Out S H H') (n : a ∉ S) (nt : ∀ b ∈ S, ∀ vs, H b ≠ some (.tup vs)) : LR H' a rs := by
  obtain ⟨zs, r, e⟩ := h
  exact ⟨zs, ⟨o _ _ n r.ls, fun z hz => o _ _ (fun q => nt _ q _ (r.tp z hz)) (r.tp z hz)⟩, e⟩
theorem BufAt.out {C : Addr} {H H' : Hp} {x l : Addr} {m : Int} {rs : List Rw} {S : List Addr} (h : BufAt C H x l m rs) (o : Out S H H') (n : x ∉ S) (n2 : l ∉ S) (nt : ∀ b ∈ S, ∀ vs, H b ≠ some (.tup vs)) : BufAt C H' x l m rs :=
  ⟨h.ob.imp fun _ e => o _ _ n e, h.rw.out o n2 nt, h.mb⟩
theorem LR.ls {H : Hp} {a : Addr} {rs : List Rw} (h : LR H a rs) : ∃ vs, H a = some (.lst vs) := by
  obtain ⟨zs, r, _⟩ := h
  exact ⟨_, r.ls⟩
theorem _root_.Hx.Pot.lr {H : Hp} {p a : Addr} {rs : List Rw} (h : Pot H p) (k : LR H a rs) : p ≠ a := fun z => by
  obtain ⟨zs, r, _⟩ := k
  obtain ⟨i, j, e, _⟩ := h.ex
  have q := r.ls
  rw [← z, e] at q
  injection q with q
  injection q with q
  cases zs with
  | nil => cases q
  | cons y ys => simp [rf] at q
theorem _root_.Hx.Pot.obj {H : Hp} {p x : Addr} {C dx : Addr} {fs : List (Str × V)} (h : Pot H p) (k : H x = some (.ins C dx fs)) : p ≠ x := fun z => by
  obtain ⟨i, j, e, _⟩ := h.ex
  rw [z, k] at e
  cases e
theorem Core.dis {C : Addr} {H : Hp} {p x l a : Addr} {m : Int} {rs : List Rw} (c : Core C H p x l a m rs) : p ≠ x ∧ p ≠ l ∧ p ≠ a ∧ a ≠ x ∧ l ≠ x := by
  obtain ⟨dx, hx⟩ := c.buf.ob
  obtain ⟨vs, ha⟩ := c.law.ls
  exact ⟨c.pot.obj hx, c.pot.lr c.buf.rw, c.pot.lr c.law, (fun z => by rw [z, hx] at ha; cases ha), c.buf.xl⟩
theorem Core.nt {C : Addr} {H : Hp} {p x l a : Addr} {m : Int} {rs : List Rw} (c : Core C H p x l a m rs) : ∀ b ∈ [p, x, l], ∀ vs, H b ≠ some (.tup vs) := by
  obtain ⟨dx, hx⟩ := c.buf.ob
  obtain ⟨vs, hl⟩ := c.buf.rw.ls
  obtain ⟨i, j, e, _⟩ := c.pot.ex
  intro b hb us
  simp only [List.mem_cons, List.not_mem_nil, or_false] at hb
  rcases hb with rfl | rfl | rfl
  · rw [e]; exact fun z => nomatch z
  · rw [hx]; exact fun z => nomatch z
  · rw [hl]; exact fun z => nomatch z
theorem Core.drawn {C : Addr} {H H' : Hp} {p x l a : Addr} {m : Int} {rs : List Rw} (c : Core C H p x l a m rs) (hp : Pot H' p) (b : But p H H') : Core C H' p x l a m rs := by
  have d := c.dis
  have nt : ∀ b ∈ [p], ∀ vs, H b ≠ some (.tup vs) := fun b hb vs => c.nt b (by simp at hb; simp [hb]) vs
  exact ⟨hp, c.buf.out (S := [p]) (Out.but b (by simp)) (by simp; exact Ne.symm d.1) (by simp; exact Ne.symm d.2.1) nt, c.law.out (S := [p]) (Out.but b (by simp)) (by simp; exact Ne.symm d.2.2.1) nt, c.al, c.good⟩
theorem Core.same {C : Addr} {H H' : Hp} {p x l a : Addr} {m : Int} {rs : List Rw} (c : Core C H p x l a m rs) (s : Same H H') : Core C H' p x l a m rs := ⟨c.pot.same s, c.buf.same s, c.law.same s, c.al, c.good⟩
theorem Core.fr {C : Addr} {H H' : Hp} {p x l a q : Addr} {m : Int} {rs : List Rw} (c : Core C H' p x l a m rs) (o : Out [p, x, l] H H') (h : H' q = none) : H q = none := by
  obtain ⟨dx, hx⟩ := c.buf.ob
  obtain ⟨vs, hl⟩ := c.buf.rw.ls
  obtain ⟨i, j, e, _⟩ := c.pot.ex
  cases hq : H q with
  | none => rfl
  | some u =>
    by_cases hm : q ∈ [p, x, l]
    · simp only [List.mem_cons, List.not_mem_nil, or_false] at hm
      rcases hm with rfl | rfl | rfl
      · rw [e] at h; cases h
      · rw [hx] at h; cases h
      · rw [hl] at h; cases h
    · rw [o _ _ hm hq] at h; cases h
theorem Core.mk' {C : Addr} {H H' : Hp} {p x l a : Addr} {m : Int} {rs : List Rw} (pot : Pot H p) (buf : BufAt C H x l m rs) (good : Good m rs) (s : Same H H') (law : LR H' a rs) (n : H a = none) : Core C H' p x l a m rs :=
  ⟨pot.same s, buf.same s, law, (fun z => by
    obtain ⟨vs, e⟩ := buf.rw.ls
    rw [← z, n] at e
    exact nomatch e), good⟩
def sp_deed (C : Addr) : Sp := fun vs H Q _ => ∃ (p x l a : Addr) (m : Int) (rs : List Rw), vs = [.ref p, .ref x, .ref a, .int m] ∧ Core C H p x l a m rs ∧
  ∀ (H' : Hp) (l' a' t : Addr) (rs' : List Rw), H' t = some (.tup [.ref a', .bl true]) → Core C H' p x l' a' m rs' → Out [p, x, l] H H' → (l' = l ∨ H l' = none) → Q (.ref t) H'
theorem ok_Ldeed_right (T : Txt K mg) : FnOk P w K mg base CX0 6 T.f_Ldeed_right T.fd_Ldeed_right ["_law_pot_here", "_law_kept", "_law_rows", "_law_many"] (sp_deed T.C_Buffer) := by
  have G_Ldraw := ok_Ldraw (P := P) (w := w) (base := base) T
  have G_Buffer_entered := ok_Buffer_entered (P := P) (w := w) (base := base) T
  have G_Buffer_stored := ok_Buffer_stored (P := P) (w := w) (base := base) T
  have G_Buffer_out := ok_Buffer_out (P := P) (w := w) (base := base) T
  have G_Buffer_cleared := ok_Buffer_cleared (P := P) (w := w) (base := base) T
  have G_Buffer_found := ok_Buffer_found (P := P) (w := w) (base := base) T
  refine T.F_Ldeed_right.ok sc_Ldeed_right (fun vs H Q E h => ?_) (fun cdv A outer s H vs Q E hr h => ?_)
  · obtain ⟨p, x, l, a, m, rs, rfl, c, k⟩ := h; rfl
  · obtain ⟨p, x, l, a, m, rs, rfl, c, k⟩ := h
    refine ⟨_, (pss_cons (ps_set (i := 4) sc_Ldeed_right.nd rfl (Or.inl rfl) (pe_call G_Ldraw (hr.mono (by decide)) rfl T.g_Ldraw T.F_Ldraw.kp T.b_Ldraw .nil pass0 (pa_cons (pv 0) (pa_cons pe_int pa_nil))))
        (pss_cons (ps_asg (pe_tup (pa_cons (pe_call G_Ldraw (hr.mono (by decide)) rfl T.g_Ldraw T.F_Ldraw.kp T.b_Ldraw .nil pass0 (pa_cons (pv 0) (pa_cons pe_int pa_nil))) (pa_cons (pe_op op_add pe_int (pe_call G_Ldraw (hr.mono (by decide)) rfl T.g_Ldraw T.F_Ldraw.kp T.b_Ldraw .nil pass0 (pa_cons (pv 0) (pa_cons pe_int pa_nil)))) pa_nil))) (pg_tup rfl (pgs_cons (pg_name (i := 5) sc_Ldeed_right.nd rfl (Or.inr rfl)) (pgs_cons (pg_name (i := 6) sc_Ldeed_right.nd rfl (Or.inr rfl)) pgs_nil))))
        (pss_cons (ps_if (pt_cmpR op_lt (pv 4) pe_int (nomark _))
          (pss_cons (ps_set (i := 7) sc_Ldeed_right.nd rfl (Or.inl rfl) (pe_tup (pa_cons (pv 5) (pa_cons (pe_op op_add pe_int (pe_op op_mod (pv 5) pe_int)) (pa_cons (pe_op op_add pe_int (pe_call G_Ldraw (hr.mono (by decide)) rfl T.g_Ldraw T.F_Ldraw.kp T.b_Ldraw .nil pass0 (pa_cons (pv 0) (pa_cons pe_int pa_nil)))) (pa_cons (pe_call G_Ldraw (hr.mono (by decide)) rfl T.g_Ldraw T.F_Ldraw.kp T.b_Ldraw .nil pass0 (pa_cons (pv 0) (pa_cons pe_int pa_nil))) pa_nil))))))
          (pss_cons (ps_set (i := 8) sc_Ldeed_right.nd rfl (Or.inl rfl) (pe_methKA (pv 1) T.cl_Buffer T.me_Buffer_entered G_Buffer_entered (hr.mono (by decide)) T.kp_Buffer_entered_1_3210 pass0 (pk_cons (pe_ix ix_tup (pv 7) pe_int (fun _ _ => rfl)) (pk_cons (pe_ix ix_tup (pv 7) pe_int (fun _ _ => rfl)) (pk_cons (pe_ix ix_tup (pv 7) pe_int (fun _ _ => rfl)) (pk_cons (pe_ix ix_tup (pv 7) pe_int (fun _ _ => rfl)) pk_nil))))))
          (pss_cons (ps_setLc (i := 2) (own := [("_law_one", 12)]) (g := gName 12) (tt := (tTest (tOp rNe (tOp (rIxT K) (tVar 12) (tC (.int 0))) (tVar 5)))) rfl sc_Ldeed_right.nd rfl rfl (sw_true rfl rfl rfl (by decide +kernel)) (pi_list (pv 2)) (blkOk_by (N := ["_law_pot_here", "_law_kept", "_law_rows", "_law_many", "_law_way", "_law_page", "_law_place", "_law_row", "_law_told", "_law_at", "_law_due", "_law_found", "_law_one"]) (sc := defScope s_Ldeed_right) (by decide +kernel)) (fun _ _ _ _ _ => pg_name (i := 12) sc_Ldeed_right.nd rfl (Or.inl rfl)) (fun _ _ _ _ _ => pts_one (pt_cmpR op_ne (pe_ix ix_tup (pv 12) pe_int (fun _ _ => rfl)) (pv 5) (nomark _))) (fun _ _ _ _ _ => (pv 12)))
          (pss_one (ps_set (i := 2) sc_Ldeed_right.nd rfl (Or.inl rfl) (pe_op op_cat (pe_ifExp (pt_cmpR op_lt (pe_callB call_len_list (by rfl) T.m_len (by decide +kernel) (pa_cons (pv 2) pa_nil)) (pv 3) (nomark _)) (pv 2) (pe_slice sl_list (pv 2) (po_some pe_int) po_none)) (pe_lst (pa_cons (pv 7) pa_nil))))))))
          (pss_one (ps_if (pt_cmpR op_eq (pv 4) pe_int (nomark _))
            (pss_cons (ps_set (i := 8) sc_Ldeed_right.nd rfl (Or.inl rfl) (pe_meth (pv 1) T.cl_Buffer T.me_Buffer_stored G_Buffer_stored (hr.mono (by decide)) T.b_Buffer_stored .nil pass0 (pa_cons (pv 6) pa_nil)))
            (pss_one (ps_setLc (i := 2) (own := [("_law_one", 12)]) (g := gName 12) (tt := (tTest (tOp (rIn K true) (tVar 6) (tSl (rSlT K) (tVar 12) (tPart (tC (.int 1))) (tPart (tC (.int 3))))))) rfl sc_Ldeed_right.nd rfl rfl (sw_true rfl rfl rfl (by decide +kernel)) (pi_list (pv 2)) (blkOk_by (N := ["_law_pot_here", "_law_kept", "_law_rows", "_law_many", "_law_way", "_law_page", "_law_place", "_law_row", "_law_told", "_law_at", "_law_due", "_law_found", "_law_one"]) (sc := defScope s_Ldeed_right) (by decide +kernel)) (fun _ _ _ _ _ => pg_name (i := 12) sc_Ldeed_right.nd rfl (Or.inl rfl)) (fun _ _ _ _ _ => pts_one (pt_cmpR op_notIn_seq (pv 6) (pe_slice sl_tup (pv 12) (po_some pe_int) (po_some pe_int)) (by rfl))) (fun _ _ _ _ _ => (pv 12)))))
            (pss_one (ps_if (pt_cmpR op_eq (pv 4) pe_int (nomark _))
              (pss_cons (ps_set (i := 9) sc_Ldeed_right.nd rfl (Or.inl rfl) (pe_call G_Ldraw (hr.mono (by decide)) rfl T.g_Ldraw T.F_Ldraw.kp T.b_Ldraw .nil pass0 (pa_cons (pv 0) (pa_cons pe_int pa_nil))))
              (pss_one (ps_par (i := 8) (j := 2) rfl sc_Ldeed_right.nd rfl rfl (by decide) rfl rfl (pa_cons (pe_meth (pv 1) T.cl_Buffer T.me_Buffer_out G_Buffer_out (hr.mono (by decide)) T.b_Buffer_out .nil pass0 (pa_cons (pv 9) pa_nil)) (pa_cons (pe_op op_cat (pe_slice sl_list (pv 2) po_none (po_some (pv 9))) (pe_slice sl_list (pv 2) (po_some (pe_op op_add (pv 9) pe_int)) po_none)) pa_nil)) (by rfl))))
              (pss_one (ps_if (PW.pt (pw_and (pt_cmpR op_eq (pv 4) pe_int (nomark _)) (pw_and1 (pt_cmpR op_eq (pe_call G_Ldraw (hr.mono (by decide)) rfl T.g_Ldraw T.F_Ldraw.kp T.b_Ldraw .nil pass0 (pa_cons (pv 0) (pa_cons pe_int pa_nil))) pe_int (nomark _)))))
                (pss_one (ps_par (i := 8) (j := 2) rfl sc_Ldeed_right.nd rfl rfl (by decide) rfl rfl (pa_cons (pe_meth0 (pv 1) T.cl_Buffer T.me_Buffer_cleared G_Buffer_cleared (hr.mono (by decide)) T.b_Buffer_cleared .nil pass0) (pa_cons (pe_lst pa_nil) pa_nil)) (by rfl)))
                (pss_cons (ps_setLc (i := 10) (own := [("_law_one", 12)]) (g := gName 12) (tt := (tTest (tOp rEq (tOp (rIxT K) (tVar 12) (tC (.int 0))) (tVar 5)))) rfl sc_Ldeed_right.nd rfl rfl (sw_true rfl rfl rfl (by decide +kernel)) (pi_list (pv 2)) (blkOk_by (N := ["_law_pot_here", "_law_kept", "_law_rows", "_law_many", "_law_way", "_law_page", "_law_place", "_law_row", "_law_told", "_law_at", "_law_due", "_law_found", "_law_one"]) (sc := defScope s_Ldeed_right) (by decide +kernel)) (fun _ _ _ _ _ => pg_name (i := 12) sc_Ldeed_right.nd rfl (Or.inl rfl)) (fun _ _ _ _ _ => pts_one (pt_cmpR op_eq (pe_ix ix_tup (pv 12) pe_int (fun _ _ => rfl)) (pv 5) (nomark _))) (fun _ _ _ _ _ => (pv 12)))
                (pss_cons (ps_set (i := 11) sc_Ldeed_right.nd rfl (Or.inl rfl) (pe_methKA (pv 1) T.cl_Buffer T.me_Buffer_found G_Buffer_found (hr.mono (by decide)) T.kb_Buffer_found pass0 (pk_cons (pv 5) pk_nil)))
                (pss_one (ps_ret (pe_tup (pa_cons (pv 2) (pa_cons (pe_cmpR (op_eqS hr.units) (pv 11) (pe_ifExp (pt_cmpR (op_neD hr.units) (pv 10) (pe_lst pa_nil) (nomark _)) (pe_ix ix_list (pv 10) pe_int (fun _ _ => rfl)) pe_non) (nomark _)) pa_nil))))))))))))))
        (pss_one (ps_ret (pe_tup (pa_cons (pv 2) (pa_cons (pe_cmpR op_isN (pv 8) pe_non (nomark _)) pa_nil)))))))), ?_⟩
    clear G_Ldraw G_Buffer_entered G_Buffer_stored G_Buffer_out G_Buffer_cleared G_Buffer_found
    clear hr
    have hpot := c.pot
    have hmb := c.buf.mb
    walk_at "rd"
    intro dw Hd w0 w1 hp1 b1
    have c1 := c.drawn hp1 b1
    have o1 : Out [p, x, l] H Hd := Out.but b1 (by simp)
    walk_at "rd"
    intro dg Hg g0 g1 hp2 b2
    have c2 := c1.drawn hp2 b2
    have o2 : Out [p, x, l] H Hg := o1.trans (Out.but b2 (by simp))
    walk_at "rd"
    intro dp Hp' p0 p1 hp3 b3
    have c3 := c2.drawn hp3 b3
    have o3 : Out [p, x, l] H Hp' := o2.trans (Out.but b3 (by simp))
    walk_at "rd"
    intro t0 ht0
    replace c3 := c3.same (same_upd (o := .tup [V.int dg, V.int (32 + dp)]) ht0)
    have o4 := o3.trans (Out.same (same_upd (o := .tup [V.int dg, V.int (32 + dp)]) ht0))
    have e4 : (upd Hp' t0 (.tup [V.int dg, V.int (32 + dp)])) t0 = some (.tup [V.int dg, V.int (32 + dp)]) := upd_same
    clear hpot c1 o1 c2 o2 hp1 hp2 b1 b2 b3 o3 hp3 c ht0
    generalize upd Hp' t0 (.tup [V.int dg, V.int (32 + dp)]) = H4 at c3 o4 e4
    have hpot := c3.pot
    walk_at "rd"
    refine iteD (fun hw => ?_) (fun hw => ?_)
    · walk_at "rd"
      intro ds H5 s0 s1 hp5 b5
      have c5 := c3.drawn hp5 b5
      have o5 := o4.trans (Out.but b5 (by simp))
      clear hpot c3 o4 b5
      walk_at "rd"
      intro dq H6 q0 q1 hp6 b6
      have c6 := c5.drawn hp6 b6
      have o6 := o5.trans (Out.but b6 (by simp))
      clear hp5 c5 o5 b6
      walk_at "rd"
      intro tr htr
      have d3 : 0 ≤ dg % 3 ∧ dg % 3 < 3 := ⟨Int.emod_nonneg _ (by decide), Int.emod_lt_of_pos _ (by decide)⟩
      obtain ⟨r, hr⟩ : ∃ r : Rw, r = (dg, 32 + dg % 3, 32 + ds, dq) := ⟨_, rfl⟩
      have hr4 : [V.int dg, V.int (32 + dg % 3), V.int (32 + ds), V.int dq] = vR r := by rw [hr]; rfl
      rw [hr4]
      replace c6 := c6.same (same_upd (o := .tup (vR r)) htr)
      replace o6 := o6.trans (Out.same (same_upd (o := .tup (vR r)) htr))
      have etr : (upd H6 tr (.tup (vR r))) tr = some (.tup (vR r)) := upd_same
      clear hp6 htr
      generalize upd H6 tr (.tup (vR r)) = H7 at c6 o6 etr ⊢
      have a0 : atI (vR r) 0 = some (.int r.1) := rfl
      have a1 : atI (vR r) 1 = some (.int r.2.1) := rfl
      have a2 : atI (vR r) 2 = some (.int r.2.2.1) := rfl
      have a3 : atI (vR r) 3 = some (.int r.2.2.2) := rfl
      have g4 : (0 ≤ r.1 ∧ r.1 < 256) ∧ (0 ≤ r.2.1 ∧ r.2.1 < 960) ∧ (0 ≤ r.2.2.1 ∧ r.2.2.1 < 960) ∧ (0 ≤ r.2.2.2 ∧ r.2.2.2 < 65536) := by
        rw [hr]
        show (0 ≤ dg ∧ dg < 256) ∧ (0 ≤ 32 + dg % 3 ∧ 32 + dg % 3 < 960) ∧ (0 ≤ 32 + ds ∧ 32 + ds < 960) ∧ (0 ≤ dq ∧ dq < 65536)
        omega
      have er : dg = r.1 := by rw [hr]
      clear hr hr4
      subst er
      have hbuf := c6.buf
      obtain ⟨dx, hx⟩ := id c6.buf.ob
      have hle := c6.good.le
      have g41 := g4.1
      have g42 := g4.2.1
      have g43 := g4.2.2.1
      have g44 := g4.2.2.2
      walk_at "rd"
      intro l1 H8 fl1 hb8 b8
      have ds6 := c6.dis
      have xS : x ∈ [p, x, l] := by simp
      have law8 : LR H8 a rs := c6.law.out (S := [x]) (Out.but b8 (by simp)) (by simp; exact ds6.2.2.2.1) (fun b hb vs => c6.nt b (by simp at hb; simp [hb]) vs)
      have pot8 : Pot H8 p := by
        obtain ⟨i, j, e, q⟩ := c6.pot.ex
        exact ⟨i, j, b8 _ _ ds6.1 e, q⟩
      have o8 := o6.trans (Out.but b8 xS)
      have etr8 : H8 tr = some (.tup (vR r)) := b8 _ _ (fun z => c6.nt x xS _ (z ▸ etr)) etr
      have fl0 : H l1 = none := c6.fr o6 fl1
      have good8 := good_ent c6.good hmb.1 g4
      clear hbuf hx c6 b8 fl1 ds6 etr o6
      obtain ⟨zs, hz, rfl⟩ := law8
      have hl := hz.ls
      walk_at "rd"
      intro D hD
      have hzl : zs.length ≤ 6 := by simp at hle; omega
      refine lc_filt zs rf (fun z => !(z.2.1 == r.1)) (SqL.of hl) hD (by omega) (fun i z H1 Qn Qy hz1 s1 kn ky => ?_) (fun H9 s9 e9 => ?_)
      · have ht := s1 _ _ (hz.tp z (List.mem_of_getElem? hz1))
        have a0 : atI (vR z.2) 0 = some (.int z.2.1) := rfl
        walk_at "rd"
        refine iteN (fun h1 => ?_) (fun h1 => ?_)
        · have h2 : ¬ z.2.1 = r.1 := fun e => h1 (congrArg V.int e)
          have q := ky (by simp [h2]) _ (L2.Same.refl _)
          walk_at "rd"
        · have h2 : z.2.1 = r.1 := V.int.inj h1
          exact kn (by simp [h2]) _ (L2.Same.refl _)
      have hent : ent m (zs.map Prod.snd) r = (if ((zs.filter fun z => !(z.2.1 == r.1)).length : Int) = m then (zs.filter fun z => !(z.2.1 == r.1)).drop 1 else (zs.filter fun z => !(z.2.1 == r.1))).map Prod.snd ++ [r] := by
        have efl : ((zs.map Prod.snd).filter fun q => !(q.1 == r.1)) = (zs.filter fun z => !(z.2.1 == r.1)).map Prod.snd := by rw [List.filter_map]; rfl
        unfold ent
        rw [efl, List.length_map]
        split
        · rw [List.map_drop]
        · rfl
      have htp : ∀ z ∈ (zs.filter fun z => !(z.2.1 == r.1)), H9 z.1 = some (.tup (vR z.2)) := fun z h => s9 _ _ (hz.tp z (List.mem_filter.mp h).1)
      have hfl : ((zs.filter fun z => !(z.2.1 == r.1)).length : Int) ≤ m := by have := List.length_filter_le (fun z => !(z.2.1 == r.1)) zs; simp at hle; omega
      rw [hent] at hb8 good8
      replace hb8 := hb8.same s9
      replace pot8 := pot8.same s9
      replace o8 := o8.trans (Out.same s9)
      replace etr8 := s9 _ _ etr8
      generalize (zs.filter fun z => !(z.2.1 == r.1)) = fs at e9 hb8 good8 htp hfl
      clear hent hz hle hl hzl s9 hD
      have fin : ∀ (D2 : Addr) (H' : Hp) (gs : List (Addr × Rw)), Same H9 H' → H9 D2 = none → H' D2 = some (.lst (gs.map rf ++ [.ref tr])) → (if (fs.length : Int) = m then fs.drop 1 else fs) = gs → (∀ z ∈ gs, z ∈ fs) → Core T.C_Buffer H' p x l1 D2 m (gs.map Prod.snd ++ [r]) := fun D2 H' gs s n e eg hm => by
        rw [eg] at hb8 good8
        refine Core.mk' pot8 hb8 good8 s ⟨gs ++ [(tr, r)], ⟨by rw [e, List.map_append]; rfl, fun z hz => ?_⟩, by rw [List.map_append]; rfl⟩ n
        rcases List.mem_append.mp hz with hz | hz
        · exact s _ _ (htp z (hm z hz))
        · simp at hz
          rw [hz]; exact s _ _ etr8
      walk_at "rd"
      refine iteD (fun h1 => ?_) (fun h1 => ?_)
      · walk_at "rd"
        intro o ho
        have hz9 : (fs.map rf).length + [V.ref tr].length ≤ sizeLine := size_le (by simp; omega)
        walk_at "rd"
        intro D2 hD2
        walk_at "rd"
        intro tt htt
        exact k _ l1 D2 tt _ upd_same (fin D2 _ fs (Hx.Same.upd (Hx.Same.upd (same_upd ho) hD2) htt) ((same_upd ho).free hD2) (old_upd htt upd_same) (if_neg (by simp at h1; omega)) (fun z h => h)) (o8.trans (Out.same (Hx.Same.upd (Hx.Same.upd (same_upd ho) hD2) htt))) (Or.inr fl0)
      · walk_at "rd"
        intro o0 ho0
        have ec : cutV (fs.map rf) (some 1) none = (fs.drop 1).map rf := (cut_from (fs.map rf) 1).trans List.map_drop.symm
        rw [ec]
        walk_at "rd"
        intro o ho
        have hz9 : ((fs.drop 1).map rf).length + [V.ref tr].length ≤ sizeLine := size_le (by simp; omega)
        walk_at "rd"
        intro D2 hD2
        walk_at "rd"
        intro tt htt
        have sm := Hx.Same.upd (o := .lst [.ref tr]) (same_upd (o := .lst ((fs.drop 1).map rf)) ho0) ho
        exact k _ l1 D2 tt _ upd_same (fin D2 _ (fs.drop 1) (Hx.Same.upd (Hx.Same.upd sm hD2) htt) (sm.free hD2) (old_upd htt upd_same) (if_pos (by simp at h1; omega)) (fun z h => List.mem_of_mem_drop h)) (o8.trans (Out.same (Hx.Same.upd (Hx.Same.upd sm hD2) htt))) (Or.inr fl0)
    · walk_at "rd"
      have hle := c3.good.le
      have hbuf := c3.buf
      obtain ⟨dx, hx⟩ := id c3.buf.ob
      have ds6 := c3.dis
      have xS : x ∈ [p, x, l] := by simp
      have lS : l ∈ [p, x, l] := by simp
      refine iteD (fun hw4 => ?_) (fun hw4 => ?_)
      · have P3 : 0 ≤ 32 + dp ∧ 32 + dp < 1024 := by omega
        walk_at "rd"
        intro l1 H8 fl1 hb8 b8
        have law8 : LR H8 a rs := c3.law.out (S := [x]) (Out.but b8 (by simp)) (by simp; exact ds6.2.2.2.1) (fun b hb vs => c3.nt b (by simp at hb; simp [hb]) vs)
        have pot8 : Pot H8 p := by
          obtain ⟨i, j, e, q⟩ := c3.pot.ex
          exact ⟨i, j, b8 _ _ ds6.1 e, q⟩
        have o8 := o4.trans (Out.but b8 xS)
        have fl0 : H l1 = none := c3.fr o4 fl1
        have good8 : Good m (stor rs (32 + dp)) := c3.good.sub List.filter_sublist
        clear hbuf hx c3 b8 fl1 ds6 o4 hpot
        obtain ⟨zs, hz, rfl⟩ := law8
        have hl := hz.ls
        walk_at "rd"
        intro D hD
        have hzl : zs.length ≤ 6 := by simp at hle; omega
        refine lc_filt zs rf (fun z => !(z.2.2.1 == 32 + dp || z.2.2.2.1 == 32 + dp)) (SqL.of hl) hD (by omega) (fun i z H1 Qn Qy hz1 s1 kn ky => ?_) (fun H9 s9 e9 => ?_)
        · have ht := s1 _ _ (hz.tp z (List.mem_of_getElem? hz1))
          have sx : ¬(HT.sIx (vR z.2).length 0 (some 1) = 0 ∧ HT.sIx (vR z.2).length (vR z.2).length (some 3) = (vR z.2).length) := by
            show ¬(HT.sIx 4 0 (some 1) = 0 ∧ HT.sIx 4 4 (some 3) = 4)
            decide
          have ec : cutV (vR z.2) (some 1) (some 3) = [.int z.2.2.1, .int z.2.2.2.1] := rfl
          walk_at "rd"
          intro t ht2
          rw [ec]
          walk_at "rd"
          · exact Or.inr (SqT.of upd_same)
          walk_at "rd"
          have ei : (if true = true then !inV (V.int (32 + dp)) [V.int z.2.2.1, V.int z.2.2.2.1] else inV (V.int (32 + dp)) [V.int z.2.2.1, V.int z.2.2.2.1]) = !(z.2.2.1 == 32 + dp || z.2.2.2.1 == 32 + dp) := by
            rw [if_pos rfl]
            simp [inV, eqV]
          rw [ei]
          by_cases hq : (!(z.2.2.1 == 32 + dp || z.2.2.2.1 == 32 + dp)) = true
          · have q : Qy (rf z) (upd H1 t (.tup [V.int z.2.2.1, V.int z.2.2.2.1])) := ky hq _ (same_upd ht2)
            rw [hq]
            refine iteT ?_
            walk_at "rd"
          · rw [Bool.not_eq_true] at hq
            rw [hq]
            exact iteF (kn hq _ (same_upd ht2))
        walk_at "rd"
        intro tt htt
        refine k _ l1 D tt _ upd_same (Core.mk' pot8 hb8 good8 (Hx.Same.upd s9 htt) ⟨_, ⟨old_upd htt e9, fun z h => old_upd htt (s9 _ _ (hz.tp z (List.mem_filter.mp h).1))⟩, ?_⟩ hD) (o8.trans (Out.same (Hx.Same.upd s9 htt))) (Or.inr fl0)
        unfold stor; rw [List.filter_map]; rfl
      · walk_at "rd"
        refine iteD (fun hw5 => ?_) (fun hw5 => ?_)
        · walk_at "rd"
          intro da H5 a0 a1 hp5 b5
          have c5 := c3.drawn hp5 b5
          have o5 := o4.trans (Out.but b5 (by simp))
          obtain ⟨i, rfl⟩ := Int.eq_ofNat_of_zero_le a0
          have hi : i < 1000 := by omega
          clear hpot c3 o4 b5 hx hbuf
          have hbuf := c5.buf
          obtain ⟨dx, hx⟩ := id c5.buf.ob
          walk_at "rd"
          intro H8 hb8 b8
          have ds5 := c5.dis
          have law8 : LR H8 a rs := c5.law.out (S := [l]) (Out.but b8 (by simp)) (by simp; exact c5.al) (fun b hb vs => c5.nt b (by simp at hb; simp [hb]) vs)
          have pot8 : Pot H8 p := by
            obtain ⟨i, j, e, q⟩ := c5.pot.ex
            exact ⟨i, j, b8 _ _ ds5.2.1 e, q⟩
          have o8 := o5.trans (Out.but b8 lS)
          have good8 : Good m (rs.eraseIdx i) := c5.good.sub (List.eraseIdx_sublist rs i)
          clear hbuf hx c5 b8 ds5 ds6 o5 hp5
          obtain ⟨zs, hz, rfl⟩ := law8
          have hl := hz.ls
          have hzl : zs.length ≤ 6 := by simp at hle; omega
          walk_at "rd"
          intro o0 ho0
          have ec : cutV (zs.map rf) none (some (i : Int)) = (zs.take i).map rf := (cut_to (zs.map rf) i).trans List.map_take.symm
          rw [ec]
          walk_at "rd"
          intro o1 ho1
          have ec2 : cutV (zs.map rf) (some ((i : Int) + 1)) none = (zs.drop (i + 1)).map rf := (cut_from (zs.map rf) (i + 1)).trans List.map_drop.symm
          rw [ec2]
          have hz9 : ((zs.take i).map rf).length + ((zs.drop (i + 1)).map rf).length ≤ sizeLine := size_le (by simp; omega)
          walk_at "rd"
          intro D2 hD2
          walk_at "rd"
          intro tt htt
          have sm := Hx.Same.upd (o := .lst ((zs.drop (i + 1)).map rf)) (same_upd (o := .lst ((zs.take i).map rf)) ho0) ho1
          refine k _ l D2 tt _ upd_same (Core.mk' pot8 hb8 good8 (Hx.Same.upd (Hx.Same.upd sm hD2) htt) ⟨zs.eraseIdx i, ⟨old_upd htt (by rw [upd_same, List.eraseIdx_eq_take_drop_succ, List.map_append]), fun z h => (Hx.Same.upd (Hx.Same.upd sm hD2) htt) _ _ (hz.tp z (List.mem_of_mem_eraseIdx h))⟩, by rw [eraseIdx_mp]⟩ (sm.free hD2)) (o8.trans (Out.same (Hx.Same.upd (Hx.Same.upd sm hD2) htt))) (Or.inl rfl)
        · walk_at "rd"
          refine iteD (fun hw6 => ?_) (fun hw6 => ?_)
          · walk_at "rd"
            intro dz H5 z0 z1 hp5 b5
            have c5 := c3.drawn hp5 b5
            have o5 := o4.trans (Out.but b5 (by simp))
            clear hpot c3 o4 b5 hx hbuf ds6
            walk_at "rd"
            refine iteD (fun hz => ?_) (fun hz => ?_)
            · have hbuf := c5.buf
              obtain ⟨dx, hx⟩ := id c5.buf.ob
              have ds6 := c5.dis
              walk_at "rd"
              intro l1 H8 fl1 hb8 b8
              have pot8 : Pot H8 p := by
                obtain ⟨i, j, e, q⟩ := c5.pot.ex
                exact ⟨i, j, b8 _ _ ds6.1 e, q⟩
              have o8 := o5.trans (Out.but b8 xS)
              have fl0 : H l1 = none := c5.fr o5 fl1
              have good8 : Good m ([] : List Rw) := c5.good.sub (List.nil_sublist rs)
              clear hbuf hx c5 b8 fl1 ds6 o5 hp5
              walk_at "rd"
              intro D2 hD2
              walk_at "rd"
              intro tt htt
              exact k _ l1 D2 tt [] upd_same (Core.mk' pot8 hb8 good8 (Hx.Same.upd (same_upd hD2) htt) ⟨[], ⟨old_upd htt upd_same, fun z h => nomatch h⟩, rfl⟩ hD2) (o8.trans (Out.same (Hx.Same.upd (same_upd hD2) htt))) (Or.inr fl0)
            · clear hz
              have hbuf := c5.buf
              obtain ⟨dx, hx⟩ := id c5.buf.ob
              obtain ⟨zs, hz, hzr⟩ := id c5.law
              subst hzr
              have hl := hz.ls
              have g256 : 0 ≤ dg ∧ dg < 256 := by omega
              walk_at "rd"
              intro D hD
              have hzl : zs.length ≤ 6 := by simp at hle; omega
              refine lc_filt zs rf (fun z => z.2.1 == dg) (SqL.of hl) hD (by omega) (fun i z H1 Qn Qy hz1 s1 kn ky => ?_) (fun H9 s9 e9 => ?_)
              · have ht := s1 _ _ (hz.tp z (List.mem_of_getElem? hz1))
                have a0 : atI (vR z.2) 0 = some (.int z.2.1) := rfl
                walk_at "rd"
                refine iteD (fun h1 => ?_) (fun h1 => ?_)
                · have h2 : z.2.1 = dg := V.int.inj h1
                  have q := ky (by simp [h2]) _ (L2.Same.refl _)
                  walk_at "rd"
                · have h2 : ¬ z.2.1 = dg := fun e => h1 (congrArg V.int e)
                  exact kn (by simp [h2]) _ (L2.Same.refl _)
              have hf : fnd (zs.map Prod.snd) dg = (match zs.filter (fun z => z.2.1 == dg) with | [] => .none | z :: _ => dR z.2) := by
                have e : zs.find? ((fun r : Rw => r.1 == dg) ∘ Prod.snd) = (zs.filter fun z => z.2.1 == dg).head? := (List.head?_filter ..).symm
                unfold fnd
                rw [List.find?_map, e]
                cases (zs.filter fun z => z.2.1 == dg) with
                | nil => rfl
                | cons z r => rfl
              have htp : ∀ z ∈ (zs.filter fun z => z.2.1 == dg), H9 z.1 = some (.tup (vR z.2)) := fun z h => s9 _ _ (hz.tp z (List.mem_filter.mp h).1)
              have c9 := c5.same s9
              have o9 := o5.trans (Out.same s9)
              clear hz hl hbuf hx c5 o5 s9 hD hzl
              have hbuf := c9.buf
              obtain ⟨dx, hx⟩ := id c9.buf.ob
              walk_at "rd"
              intro v hv
              rw [hf] at hv
              walk_at "rd"
              generalize (zs.filter fun z => z.2.1 == dg) = fs at e9 hf hv htp
              intro q hq
              have e10 : (upd H9 q (.lst [])) D = some (.lst (fs.map rf)) := old_upd hq e9
              have htp2 : ∀ z ∈ fs, (upd H9 q (.lst [])) z.1 = some (.tup (vR z.2)) := fun z h => old_upd hq (htp z h)
              have LD : Dp K (upd H9 q (.lst [])) (.ref D) (rD (fs.map Prod.snd)) := .lst (SqL.of e10) (dp_rw fs htp2)
              refine ⟨rD (fs.map Prod.snd), .list [], LD, .lst (SqL.of upd_same) .nil, rD_sh _, rfl, ?_⟩
              refine ⟨_, rfl, ?_⟩
              have ev : PyData.eqv (rD (fs.map Prod.snd)) (.list []) = ((fs.map Prod.snd).map dR).isEmpty := eqv_nilD _
              rw [ev]
              replace hv := dp_same (same_upd (o := .lst []) hq) _ _ hv
              replace c9 := c9.same (same_upd (o := .lst []) hq)
              replace o9 := o9.trans (Out.same (same_upd (o := .lst []) hq))
              clear LD ev hx hbuf htp hq e9 hf
              generalize upd H9 q (.lst []) = H10 at e10 htp2 hv c9 o9 ⊢
              cases fs with
              | nil =>
                obtain rfl : v = .non := by cases hv; rfl
                have sn : SeqAt.shaped PyData.none = true := rfl
                refine iteF ?_
                walk_at "rd"
                intro tt htt
                exact k _ l a tt _ upd_same (c9.same (same_upd htt)) (o9.trans (Out.same (same_upd htt))) (Or.inl rfl)
              | cons z r =>
                have dz : Dp K H10 (rf z) (dR z.2) := .tup (SqT.of (htp2 z List.mem_cons_self)) (.cons (.int _) (.cons (.int _) (.cons (.int _) (.cons (.int _) .nil))))
                have sd : SeqAt.shaped (dR z.2) = true := flat_sh (n := 1) (dR_flat z.2)
                have ai : atI ((z :: r).map rf) 0 = some (rf z) := at_of (j := 0) (by omega) rfl
                refine iteT ?_
                walk_at "rd"
                intro tt htt
                exact k _ l a tt _ upd_same (c9.same (same_upd htt)) (o9.trans (Out.same (same_upd htt))) (Or.inl rfl)
          · have c5 := c3
            have o5 := o4
            clear hpot c3 o4 hx hbuf ds6
            have hbuf := c5.buf
            obtain ⟨dx, hx⟩ := id c5.buf.ob
            obtain ⟨zs, hz, hzr⟩ := id c5.law
            subst hzr
            have hl := hz.ls
            have g256 : 0 ≤ dg ∧ dg < 256 := by omega
            walk_at "rd"
            intro D hD
            have hzl : zs.length ≤ 6 := by simp at hle; omega
            refine lc_filt zs rf (fun z => z.2.1 == dg) (SqL.of hl) hD (by omega) (fun i z H1 Qn Qy hz1 s1 kn ky => ?_) (fun H9 s9 e9 => ?_)
            · have ht := s1 _ _ (hz.tp z (List.mem_of_getElem? hz1))
              have a0 : atI (vR z.2) 0 = some (.int z.2.1) := rfl
              walk_at "rd"
              refine iteD (fun h1 => ?_) (fun h1 => ?_)
              · have h2 : z.2.1 = dg := V.int.inj h1
                have q := ky (by simp [h2]) _ (L2.Same.refl _)
                walk_at "rd"
              · have h2 : ¬ z.2.1 = dg := fun e => h1 (congrArg V.int e)
                exact kn (by simp [h2]) _ (L2.Same.refl _)
            have hf : fnd (zs.map Prod.snd) dg = (match zs.filter (fun z => z.2.1 == dg) with | [] => .none | z :: _ => dR z.2) := by
              have e : zs.find? ((fun r : Rw => r.1 == dg) ∘ Prod.snd) = (zs.filter fun z => z.2.1 == dg).head? := (List.head?_filter ..).symm
              unfold fnd
              rw [List.find?_map, e]
              cases (zs.filter fun z => z.2.1 == dg) with
              | nil => rfl
              | cons z r => rfl
            have htp : ∀ z ∈ (zs.filter fun z => z.2.1 == dg), H9 z.1 = some (.tup (vR z.2)) := fun z h => s9 _ _ (hz.tp z (List.mem_filter.mp h).1)
            have c9 := c5.same s9
            have o9 := o5.trans (Out.same s9)
            clear hz hl hbuf hx c5 o5 s9 hD hzl
            have hbuf := c9.buf
            obtain ⟨dx, hx⟩ := id c9.buf.ob
            walk_at "rd"
            intro v hv
            rw [hf] at hv
            walk_at "rd"
            generalize (zs.filter fun z => z.2.1 == dg) = fs at e9 hf hv htp
            intro q hq
            have e10 : (upd H9 q (.lst [])) D = some (.lst (fs.map rf)) := old_upd hq e9
            have htp2 : ∀ z ∈ fs, (upd H9 q (.lst [])) z.1 = some (.tup (vR z.2)) := fun z h => old_upd hq (htp z h)
            have LD : Dp K (upd H9 q (.lst [])) (.ref D) (rD (fs.map Prod.snd)) := .lst (SqL.of e10) (dp_rw fs htp2)
            refine ⟨rD (fs.map Prod.snd), .list [], LD, .lst (SqL.of upd_same) .nil, rD_sh _, rfl, ?_⟩
            refine ⟨_, rfl, ?_⟩
            have ev : PyData.eqv (rD (fs.map Prod.snd)) (.list []) = ((fs.map Prod.snd).map dR).isEmpty := eqv_nilD _
            rw [ev]
            replace hv := dp_same (same_upd (o := .lst []) hq) _ _ hv
            replace c9 := c9.same (same_upd (o := .lst []) hq)
            replace o9 := o9.trans (Out.same (same_upd (o := .lst []) hq))
            clear LD ev hx hbuf htp hq e9 hf
            generalize upd H9 q (.lst []) = H10 at e10 htp2 hv c9 o9 ⊢
            cases fs with
            | nil =>
              obtain rfl : v = .non := by cases hv; rfl
              have sn : SeqAt.shaped PyData.none = true := rfl
              refine iteF ?_
              walk_at "rd"
              intro tt htt
              exact k _ l a tt _ upd_same (c9.same (same_upd htt)) (o9.trans (Out.same (same_upd htt))) (Or.inl rfl)
            | cons z r =>
              have dz : Dp K H10 (rf z) (dR z.2) := .tup (SqT.of (htp2 z List.mem_cons_self)) (.cons (.int _) (.cons (.int _) (.cons (.int _) (.cons (.int _) .nil))))
              have sd : SeqAt.shaped (dR z.2) = true := flat_sh (n := 1) (dR_flat z.2)
              have ai : atI ((z :: r).map rf) 0 = some (rf z) := at_of (j := 0) (by omega) rfl
              refine iteT ?_
              walk_at "rd"
              intro tt htt
              exact k _ l a tt _ upd_same (c9.same (same_upd htt)) (o9.trans (Out.same (same_upd htt))) (Or.inl rfl)
end
end K56

set_option Elab.async false
set_option linter.all false
set_option maxRecDepth 100000
set_option maxHeartbeats 8000000

namespace K56
open PySem PySem.Spec PyProof.Rows L2 Hx 
local macro_rules | `(tactic| walk_at "sm") => `(tactic| repeat' (first | assumption | apply Hx.Same.upd | exact L2.Same.refl _ | apply same_trans'))
local macro_rules | `(tactic| walk_at "hp") => `(tactic| repeat' (first | assumption | exact upd_same | apply old_upd | apply same_at))
local macro_rules | `(tactic| walk_at "rd") => `(tactic| repeat' (first | rfl | apply Exists.intro | apply And.intro | refine iteT ?_ | refine iteF ?_ | exact upd_same | exact SqL.of (by assumption) | exact SqL.of upd_same | exact SqT.of upd_same | exact SqT.of (by assumption) | ((with_reducible show (_ : Int) < _); omega) | ((with_reducible show (_ : Int) ≤ _); omega) | (show (_ : Prop); assumption) | exact Or.inl ⟨_, by assumption, rfl⟩ | exact Or.inl ⟨rfl, _, SqL.of (by assumption)⟩ | exact Or.inl ⟨rfl, _, SqL.of upd_same⟩ | apply old_upd | apply Hx.SqL.new | apply tyl_new | apply Pot.new | exact same_at (by assumption) (by assumption) | exact Or.inl (SqL.of (by assumption)) | exact Or.inl (by assumption) | exact Or.inl (SqL.of upd_same) | exact size_le (Nat.le_of_ble_eq_true rfl) | exact Nat.le_of_ble_eq_true rfl | exact True.intro | exact Or.inl rfl | exact Or.inr rfl | (show (_ : Prop); omega) | (show (_ : Prop); dsimp only; omega) | exact mulw64 (by omega) (by omega) | exact mulw64 (by (try dsimp only); omega) (by (try dsimp only); omega)))

section
variable {P : Program} {w : World} {K : PySem.W.Frag} {mg : Str → Option Value} {base : Heap}
/-- the copy at x2 with l2, the list laid by at b -/
structure Side (C : Addr) (H : Hp) (p x l : Addr) (m : Int) (x2 l2 b : Addr) (rs2 : List Rw) : Prop where
  bf : BufAt C H x2 l2 m rs2
  lt : LR H b rs2
  dd : ∀ a ∈ [x2, l2, b], a ∉ [p, x, l]
theorem Side.same {C : Addr} {H H' : Hp} {p x l : Addr} {m : Int} {x2 l2 b : Addr} {rs2 : List Rw} (h : Side C H p x l m x2 l2 b rs2) (s : Same H H') : Side C H' p x l m x2 l2 b rs2 := ⟨h.bf.same s, h.lt.same s, h.dd⟩
theorem Side.deed {C : Addr} {H H' : Hp} {p x l l' a : Addr} {m m' : Int} {x2 l2 b : Addr} {rs rs2 : List Rw} (h : Side C H p x l m x2 l2 b rs2) (c : Core C H p x l a m' rs) (o : Out [p, x, l] H H') (hl : l' = l ∨ H l' = none) : Side C H' p x l' m x2 l2 b rs2 := by
  obtain ⟨dx, hx⟩ := h.bf.ob
  obtain ⟨vs, e2⟩ := h.bf.rw.ls
  obtain ⟨ws, eb⟩ := h.lt.ls
  refine ⟨h.bf.out o (h.dd _ (by simp)) (h.dd _ (by simp)) c.nt, h.lt.out o (h.dd _ (by simp)) c.nt, fun q hq hm => ?_⟩
  have d := h.dd q hq
  simp only [List.mem_cons, List.not_mem_nil, or_false, not_or] at d hm
  rcases hm with e | e | e
  · exact d.1 e
  · exact d.2.1 e
  · rcases hl with z | z
    · exact d.2.2 (e.trans z)
    · rw [← e] at z
      simp only [List.mem_cons, List.not_mem_nil, or_false] at hq
      rcases hq with rfl | rfl | rfl
      · rw [hx] at z; cases z
      · rw [e2] at z; cases z
      · rw [eb] at z; cases z
theorem Core.old {C : Addr} {H : Hp} {p x l a q : Addr} {m : Int} {rs : List Rw} (c : Core C H p x l a m rs) (h : H q = none) : q ∉ [p, x, l] := by
  obtain ⟨dx, hx⟩ := c.buf.ob
  obtain ⟨vs, hl⟩ := c.buf.rw.ls
  obtain ⟨i, j, e, _⟩ := c.pot.ex
  simp only [List.mem_cons, List.not_mem_nil, or_false, not_or]
  exact ⟨Ne.symm (ne_of_none e h), Ne.symm (ne_of_none hx h), Ne.symm (ne_of_none hl h)⟩
def Jn (C : Addr) (H : Hp) (p x l : Addr) (m : Int) (i : Nat) (ot la : Option V) : Prop := (i ≤ 20 ∧ ot = some .non) ∨ (20 < i ∧ ∃ (x2 l2 b : Addr) (rs2 : List Rw), ot = some (.ref x2) ∧ la = some (.ref b) ∧ Side C H p x l m x2 l2 b rs2)
theorem Jn.same {C : Addr} {H H' : Hp} {p x l : Addr} {m : Int} {i : Nat} {ot la : Option V} (h : Jn C H p x l m i ot la) (s : Same H H') : Jn C H' p x l m i ot la := h.imp id fun ⟨a, x2, l2, b, rs2, e1, e2, d⟩ => ⟨a, x2, l2, b, rs2, e1, e2, d.same s⟩
theorem Jn.deed {C : Addr} {H H' : Hp} {p x l l' a : Addr} {m : Int} {i : Nat} {ot la : Option V} {rs : List Rw} (h : Jn C H p x l m i ot la) (c : Core C H p x l a m rs) (o : Out [p, x, l] H H') (hl : l' = l ∨ H l' = none) : Jn C H' p x l' m i ot la := h.imp id fun ⟨a, x2, l2, b, rs2, e1, e2, d⟩ => ⟨a, x2, l2, b, rs2, e1, e2, d.deed c o hl⟩
theorem ent_take {m : Int} {rs : List Rw} {i : Nat} {r : Rw} (g : Good m rs) (h : rs[i]? = some r) : ent m (rs.take i) r = rs.take (i + 1) := by
  have hi : i < rs.length := (List.getElem?_eq_some_iff.mp h).1
  have er : rs[i] = r := (List.getElem?_eq_some_iff.mp h).2
  have sp : rs = rs.take i ++ r :: rs.drop (i + 1) := by rw [← er, ← List.drop_eq_getElem_cons hi, List.take_append_drop]
  have nd := g.nd
  rw [sp, List.map_append, List.nodup_append] at nd
  have ef : (rs.take i).filter (fun q => !(q.1 == r.1)) = rs.take i := List.filter_eq_self.mpr fun q hq => by
    have := nd.2.2 q.1 (List.mem_map.mpr ⟨q, hq, rfl⟩) r.1 (by simp)
    simp [this]
  have le := g.le
  unfold ent
  rw [ef, if_neg (by simp; omega), List.take_add_one, h]; rfl
def sp_right (K : PySem.W.Frag) : Sp := fun vs H Q _ => ∃ p : Addr, vs = [.ref p] ∧ Pot H p ∧ ∀ H', Q (.bl true) H'
theorem ok_Lright (T : Txt K mg) : FnOk P w K mg base CX0 7 T.f_Lright T.fd_Lright ["_law_pot_here"] (sp_right K) := by
  have G_Ldraw := ok_Ldraw (P := P) (w := w) (base := base) T
  have G_Buffer_init := ok_Buffer_init (P := P) (w := w) (base := base) T
  have G_Buffer_copy := ok_Buffer_copy (P := P) (w := w) (base := base) T
  have G_Ldeed_right := ok_Ldeed_right (P := P) (w := w) (base := base) T
  have G_Buffer_most := ok_Buffer_most (P := P) (w := w) (base := base) T
  have G_Buffer_rows := ok_Buffer_rows (P := P) (w := w) (base := base) T
  have G_Buffer_entered := ok_Buffer_entered (P := P) (w := w) (base := base) T
  have G_Buffer_eq := ok_Buffer_eq (P := P) (w := w) (base := base) T
  refine T.F_Lright.ok sc_Lright (fun vs H Q E h => ?_) (fun cdv A outer s H vs Q E hr h => ?_)
  · obtain ⟨p, rfl, hp, k⟩ := h; rfl
  · obtain ⟨p, rfl, hp, k⟩ := h
    refine ⟨_, (pss_cons (ps_par (i := 1) (j := 2) rfl sc_Lright.nd rfl rfl (by decide) rfl rfl (pa_cons (pe_op op_add pe_int (pe_call G_Ldraw (hr.mono (by decide)) rfl T.g_Ldraw T.F_Ldraw.kp T.b_Ldraw .nil pass0 (pa_cons (pv 0) (pa_cons pe_int pa_nil)))) (pa_cons (pe_lst pa_nil) pa_nil)) (by rfl))
        (pss_cons (ps_par (i := 3) (j := 4) rfl sc_Lright.nd rfl rfl (by decide) rfl rfl (pa_cons (pe_make T.mk_Buffer G_Buffer_init (hr.mono (by decide)) rfl T.g_Buffer T.b_Buffer_init .nil pass0 (pa_cons (pv 1) pa_nil)) (pa_cons pe_non pa_nil)) (by rfl))
        (pss_cons (ps_forS PassesOwn.never rfl (pi_range1 rfl T.m_range (pa_cons pe_int pa_nil)) (pg_name (i := 5) sc_Lright.nd rfl (Or.inl rfl))
          (pss_cons (ps_if (pt_cmpR op_eq (pv 5) pe_int (nomark _))
            (pss_one (ps_par (i := 4) (j := 6) rfl sc_Lright.nd rfl rfl (by decide) rfl rfl (pa_cons (pe_meth0 (pv 3) T.cl_Buffer T.me_Buffer_copy G_Buffer_copy (hr.mono (by decide)) T.b_Buffer_copy .nil pass0) (pa_cons (pe_callTy call_list_of (by rfl) T.m_list (by decide +kernel) (pa_cons (pv 2) pa_nil)) pa_nil)) (by rfl)))
            pss_nil)
          (pss_cons (ps_asg (pe_call G_Ldeed_right (hr.mono (by decide)) rfl T.g_Ldeed_right T.F_Ldeed_right.kp T.b_Ldeed_right .nil pass0 (pa_cons (pv 0) (pa_cons (pv 3) (pa_cons (pv 2) (pa_cons (pv 1) pa_nil))))) (pg_tup rfl (pgs_cons (pg_name (i := 2) sc_Lright.nd rfl (Or.inl rfl)) (pgs_cons (pg_name (i := 7) sc_Lright.nd rfl (Or.inl rfl)) pgs_nil))))
          (pss_one (ps_if (PW.pt (pw_or (pt_not (pt_val (pv 7))) (pw_or (pt_cmpR (op_neS hr.units) (pe_meth0 (pv 3) T.cl_Buffer T.me_Buffer_rows G_Buffer_rows (hr.mono (by decide)) T.b_Buffer_rows .nil pass0) (pv 2) (nomark _)) (pw_or1 (pt_cmpR op_ne (pe_prop (pv 3) T.cl_Buffer T.p_Buffer_most G_Buffer_most (hr.mono (by decide)) T.b_Buffer_most .nil pass0 rfl) (pv 1) (nomark _))))))
            (pss_one (ps_ret pe_bl))
            pss_nil)))))
        (pss_cons (ps_set (i := 8) sc_Lright.nd rfl (Or.inl rfl) (pe_meth0 (pv 3) T.cl_Buffer T.me_Buffer_rows G_Buffer_rows (hr.mono (by decide)) T.b_Buffer_rows .nil pass0))
        (pss_cons (ps_expr (pe_bm PySem.F.plainAttrs_list PySem.F.slot_list_append PySem.F.type_list_append mt_append (pv 8) (pa_cons pe_non pa_nil)))
        (pss_cons (ps_if (PW.pt (pw_or (pt_cmpR (op_neS hr.units) (pe_meth0 (pv 3) T.cl_Buffer T.me_Buffer_rows G_Buffer_rows (hr.mono (by decide)) T.b_Buffer_rows .nil pass0) (pv 2) (nomark _)) (pw_or (pt_cmpR (op_neS hr.units) (pe_meth0 (pv 4) T.cl_Buffer T.me_Buffer_rows G_Buffer_rows (hr.mono (by decide)) T.b_Buffer_rows .nil pass0) (pv 6) (nomark _)) (pw_or1 (pt_cmpR op_ne (pe_prop (pv 4) T.cl_Buffer T.p_Buffer_most G_Buffer_most (hr.mono (by decide)) T.b_Buffer_most .nil pass0 rfl) (pv 1) (nomark _))))))
          (pss_one (ps_ret pe_bl))
          pss_nil)
        (pss_cons (ps_if (PW.pt (pw_or (pt_cmpR op_ne (pe_cmpR (op_eqOwn G_Buffer_eq (hr.mono (by decide)) T.me_Buffer_eq.at_ T.me_Buffer_eq.fn T.b_Buffer_eq) (pv 3) (pv 4) (nomark _)) (pe_cmpR (op_eqD hr.units) (pv 2) (pv 6) (nomark _)) (nomark _)) (pw_or (pt_cmpR (op_eqOwnL G_Buffer_eq (hr.mono (by decide)) T.me_Buffer_eq.at_ T.me_Buffer_eq.fn T.b_Buffer_eq T.sl_Buffer) (pv 3) (pv 2) (nomark _)) (pw_or1 (pt_cmpR (op_eqOwn G_Buffer_eq (hr.mono (by decide)) T.me_Buffer_eq.at_ T.me_Buffer_eq.fn T.b_Buffer_eq) (pv 3) (pe_make T.mk_Buffer G_Buffer_init (hr.mono (by decide)) rfl T.g_Buffer T.b_Buffer_init .nil pass0 (pa_cons (pe_op op_add (pv 1) pe_int) pa_nil)) (nomark _))))))
          (pss_one (ps_ret pe_bl))
          pss_nil)
        (pss_cons (ps_set (i := 9) sc_Lright.nd rfl (Or.inl rfl) (pe_make T.mk_Buffer G_Buffer_init (hr.mono (by decide)) rfl T.g_Buffer T.b_Buffer_init .nil pass0 (pa_cons (pv 1) pa_nil)))
        (pss_cons (ps_forS PassesOwn.never rfl (pi_list (pv 2)) (pg_name (i := 10) sc_Lright.nd rfl (Or.inl rfl))
          (pss_one (ps_expr (pe_meth (pv 9) T.cl_Buffer T.me_Buffer_entered G_Buffer_entered (hr.mono (by decide)) T.b_Buffer_entered .nil pass0 (pa_cons (pe_ix ix_tup (pv 10) pe_int (fun _ _ => rfl)) (pa_cons (pe_ix ix_tup (pv 10) pe_int (fun _ _ => rfl)) (pa_cons (pe_ix ix_tup (pv 10) pe_int (fun _ _ => rfl)) (pa_cons (pe_ix ix_tup (pv 10) pe_int (fun _ _ => rfl)) pa_nil))))))))
        (pss_one (ps_ret (pe_and (pe_cmpR (op_eqOwn G_Buffer_eq (hr.mono (by decide)) T.me_Buffer_eq.at_ T.me_Buffer_eq.fn T.b_Buffer_eq) (pv 9) (pv 3) (nomark _)) (pe_one (pe_cmpR (op_eqOwn G_Buffer_eq (hr.mono (by decide)) T.me_Buffer_eq.at_ T.me_Buffer_eq.fn T.b_Buffer_eq) (pe_makeK0 T.mk_Buffer G_Buffer_init (hr.mono (by decide)) rfl T.g_Buffer T.kp_Buffer_init_1_0 pass0 (pk_cons pe_int pk_nil)) (pe_make T.mk_Buffer G_Buffer_init (hr.mono (by decide)) rfl T.g_Buffer T.b_Buffer_init .nil pass0 (pa_cons pe_int pa_nil)) (nomark _))))))))))))))), ?_⟩
    clear G_Ldraw G_Buffer_init G_Buffer_copy G_Ldeed_right G_Buffer_most G_Buffer_rows G_Buffer_entered G_Buffer_eq
    clear hr
    walk_at "rd"
    intro dm H1 m0 m1 hp1 b1
    clear hp b1
    walk_at "rd"
    intro a fa
    have hpa := hp1.new (o := .lst []) fa
    have ea : (upd H1 a (.lst [])) a = some (.lst []) := upd_same
    clear hp1
    generalize upd H1 a (.lst []) = H2 at hpa ea ⊢
    obtain ⟨m, hm⟩ : ∃ m : Int, m = 1 + dm := ⟨_, rfl⟩
    have hm5 : 1 ≤ m ∧ m ≤ 5 := by omega
    have hm6 : 1 ≤ 1 + dm ∧ 1 + dm ≤ 6 := by omega
    walk_at "rd"
    intro x dx nx ndx nex
    have nx' : upd H2 dx (.own x) x = none := by rw [upd_ne (Ne.symm nex)]; exact nx
    have sm : Same H2 (upd (upd H2 dx (.own x)) x (.ins T.C_Buffer dx [])) := Hx.Same.upd (same_upd ndx) nx'
    walk_at "rd"
    intro l H3 fl hb3 bt
    have s2 : Same H2 H3 := fun b u e => bt b u (ne_of_none e nx) (sm _ _ e)
    have c0 : Core T.C_Buffer H3 p x l a (1 + dm) [] := ⟨hpa.same s2, hb3, ⟨[], ⟨s2 _ _ ea, fun z h => nomatch h⟩, rfl⟩, (fun z => by
      rw [← z, sm _ _ ea] at fl; cases fl), ⟨by simp; omega, by simp, fun r h => nomatch h⟩⟩
    clear hpa ea nx nx' ndx nex sm fl hb3 bt s2
    walk_at "rd"
    rw [← hm] at c0
    refine ⟨for_range (n := 40) (fun i σ H' => Stop (∃ (l a : Addr) (rs : List Rw) (ot tu la ir : Option V), σ = [some (.ref p), some (.int m), some (.ref a), some (.ref x), ot, tu, la, ir, none, none, none] ∧ Core T.C_Buffer H' p x l a m rs ∧ Jn T.C_Buffer H' p x l m i ot la)) ⟨⟨l, a, [], _, _, _, _, (by rw [hm]; rfl), c0, .inl ⟨by decide, rfl⟩⟩⟩ (fun i σ H' hi h => ?_) (fun σ H' h => ?_)⟩
    · obtain ⟨l, a, rs, ot, tu, la, ir, rfl, c, j⟩ := h.h
      clear h c0 fa
      walk_at "rd"
      refine iteD (fun h20 => ?_) (fun h20 => ?_)
      · have h21 : i = 20 := by have := V.int.inj h20; omega
        have hbuf := c.buf
        obtain ⟨dx, hx⟩ := id c.buf.ob
        walk_at "rd"
        intro x2 l2' Hc nx2 nl2 hb2 sc
        have o1 := c.old nx2
        have o2 := c.old nl2
        replace c := c.same sc
        clear hbuf hx j sc
        obtain ⟨zs, hz, hzr⟩ := id c.law
        have hl := hz.ls
        walk_at "rd"
        intro b hb
        have o3 := c.old hb
        have j : Jn T.C_Buffer (upd Hc b (.lst (zs.map rf))) p x l m (i + 1) (some (.ref x2)) (some (.ref b)) := .inr ⟨by omega, x2, l2', b, rs, rfl, rfl, ⟨hb2.same (same_upd hb), ⟨zs, ⟨upd_same, fun z h => old_upd hb (hz.tp z h)⟩, hzr⟩, fun q hq => by
          simp only [List.mem_cons, List.not_mem_nil, or_false] at hq
          rcases hq with rfl | rfl | rfl
          · exact o1
          · exact o2
          · exact o3⟩⟩
        replace c := c.same (same_upd (o := .lst (zs.map rf)) hb)
        generalize upd Hc b (.lst (zs.map rf)) = H1' at c j ⊢
        clear hl hz hzr hb hb2 nx2 nl2 o1 o2 o3
        have hc0 := c
        walk_at "rd"
        intro H2 l2 a2 t rs2 ht c2 o2 hl2
        replace j := j.deed hc0 o2 hl2
        clear hc0 c o2 hl2
        have hbuf := c2.buf
        obtain ⟨dx, hx⟩ := id c2.buf.ob
        walk_at "rd"
        intro p3 H3 fp3 lr3 s3
        have L1 : Dp K H3 (.ref p3) (rD rs2) := lr3.dp
        replace c2 := c2.same s3
        replace j := j.same s3
        have L2 : Dp K H3 (.ref a2) (rD rs2) := c2.law.dp
        have SH := rD_sh rs2
        clear hbuf hx ht lr3 s3 fp3
        have hbuf := c2.buf
        obtain ⟨dx, hx⟩ := id c2.buf.ob
        walk_at "rd"
        refine iteN (fun h => absurd rfl h) (fun _ => ?_)
        walk_at "rd"
        exact ⟨⟨l2, a2, rs2, _, _, _, _, rfl, c2, j⟩⟩
      · replace j : Jn T.C_Buffer H' p x l m (i + 1) ot la := by
          have h21 : ¬ i = 20 := fun z => h20 (by rw [z]; rfl)
          exact j.imp (fun q => ⟨by omega, q.2⟩) (fun q => ⟨by omega, q.2⟩)
        walk_at "rd"
        have hc0 := c
        walk_at "rd"
        intro H2 l2 a2 t rs2 ht c2 o2 hl2
        replace j := j.deed hc0 o2 hl2
        clear hc0 c o2 hl2
        have hbuf := c2.buf
        obtain ⟨dx, hx⟩ := id c2.buf.ob
        walk_at "rd"
        intro p3 H3 fp3 lr3 s3
        have L1 : Dp K H3 (.ref p3) (rD rs2) := lr3.dp
        replace c2 := c2.same s3
        replace j := j.same s3
        have L2 : Dp K H3 (.ref a2) (rD rs2) := c2.law.dp
        have SH := rD_sh rs2
        clear hbuf hx ht lr3 s3 fp3
        have hbuf := c2.buf
        obtain ⟨dx, hx⟩ := id c2.buf.ob
        walk_at "rd"
        refine iteN (fun h => absurd rfl h) (fun _ => ?_)
        walk_at "rd"
        exact ⟨⟨l2, a2, rs2, _, _, _, _, rfl, c2, j⟩⟩
    obtain ⟨l, a, rs, ot, tu, la, ir, rfl, c, j⟩ := h.h
    clear h c0 fa
    obtain ⟨x2, l2, b, rs2, rfl, rfl, sd⟩ : ∃ (x2 l2 b : Addr) (rs2 : List Rw), ot = some (.ref x2) ∧ la = some (.ref b) ∧ Side T.C_Buffer H' p x l m x2 l2 b rs2 := by
      rcases j with ⟨q, _⟩ | ⟨_, q⟩
      · omega
      · exact q
    clear j
    have hbuf := c.buf
    obtain ⟨dx, hx⟩ := id c.buf.ob
    walk_at "rd"
    intro p3 H3 fp3 lr3 s3
    obtain ⟨zs3, hz3, hzr3⟩ := id lr3
    have hl3 := hz3.ls
    have sz3 : (zs3.map rf).length < sizeLine := by
      have := c.good.le
      have e : zs3.length = rs.length := by rw [← hzr3, List.length_map]
      exact size_lt (by simp; omega)
    have s4 : Same H' (upd H3 p3 (.lst (zs3.map rf ++ [.non]))) := same_set s3 fp3
    replace c := c.same s4
    replace sd := sd.same s4
    clear hbuf
    have hbuf := c.buf
    obtain ⟨dx4, hx4⟩ := id c.buf.ob
    walk_at "rd"
    intro p5 H5 fp5 lr5 s5
    have L1 : Dp K H5 (.ref p5) (rD rs) := lr5.dp
    replace c := c.same s5
    replace sd := sd.same s5
    have L2 : Dp K H5 (.ref a) (rD rs) := c.law.dp
    have L3 : Dp K H5 (.ref b) (rD rs2) := sd.lt.dp
    have SH := rD_sh rs
    have SH2 := rD_sh rs2
    clear hbuf hx lr3 hz3 hl3 s4 s3 fp3 hzr3 sz3 hx4 s5 lr5 fp5
    have hbuf := c.buf
    obtain ⟨dx, hx⟩ := id c.buf.ob
    have hbuf2 := sd.bf
    obtain ⟨dx2, hx2⟩ := id sd.bf.ob
    walk_at "rd"
    intro p6 H6 fp6 lr6 s6
    replace c := c.same s6
    replace sd := sd.same s6
    have M1 : Dp K H6 (.ref p6) (rD rs2) := lr6.dp
    replace L2 : Dp K H6 (.ref a) (rD rs) := c.law.dp
    replace L3 : Dp K H6 (.ref b) (rD rs2) := sd.lt.dp
    clear L1 hbuf hx hbuf2 hx2 lr6 s6 fp6
    have hbuf := c.buf
    obtain ⟨dx, hx⟩ := id c.buf.ob
    have hbuf2 := sd.bf
    obtain ⟨dx2, hx2⟩ := id sd.bf.ob
    walk_at "rd"
    refine iteN (fun h => absurd rfl h) (fun _ => ?_)
    obtain ⟨va, ha⟩ := c.law.ls
    walk_at "rd"
    refine Or.inl ⟨l2, m, rs2, hbuf2, _, rfl, ?_⟩
    walk_at "rd"
    refine iteN (fun h => absurd (by rw [decide_eq_true (rfl : m = m), Bool.true_and]) h) (fun _ => ?_)
    walk_at "rd"
    refine Or.inr ⟨va, ha, _, rfl, ?_⟩
    have hm61 : 1 ≤ m + 1 ∧ m + 1 ≤ 6 := by omega
    walk_at "rd"
    intro x7 dx7 nx7 ndx7 nex7
    have nx7' : upd H6 dx7 (.own x7) x7 = none := by rw [upd_ne (Ne.symm nex7)]; exact nx7
    have sm7 : Same H6 (upd (upd H6 dx7 (.own x7)) x7 (.ins T.C_Buffer dx7 [])) := Hx.Same.upd (same_upd ndx7) nx7'
    walk_at "rd"
    intro l7 H7 fl7 hb7 bt7
    have s7 : Same H6 H7 := fun b u e => bt7 b u (ne_of_none e nx7) (sm7 _ _ e)
    replace c := c.same s7
    clear L2 L3 M1 sd hbuf2 hx2 hbuf hx ha SH2 nx7 ndx7 nex7 nx7' sm7 fl7 bt7 s7
    have hbuf := c.buf
    obtain ⟨dx, hx⟩ := id c.buf.ob
    obtain ⟨dx8, hx8⟩ := id hb7.ob
    walk_at "rd"
    refine Or.inl ⟨l7, m + 1, [], hb7, _, rfl, ?_⟩
    rw [decide_eq_false (show ¬ m = m + 1 by omega), Bool.false_and]
    walk_at "rd"
    intro x9 dx9 nx9 ndx9 nex9
    have xn := c.old nx9
    have xa : a ≠ x9 := fun z => by
      obtain ⟨vs, e⟩ := c.law.ls
      rw [z, nx9] at e; cases e
    have nx9' : upd H7 dx9 (.own x9) x9 = none := by rw [upd_ne (Ne.symm nex9)]; exact nx9
    have sm9 : Same H7 (upd (upd H7 dx9 (.own x9)) x9 (.ins T.C_Buffer dx9 [])) := Hx.Same.upd (same_upd ndx9) nx9'
    have hm62 : 1 ≤ m ∧ m ≤ 6 := by omega
    walk_at "rd"
    intro l9 H9 fl9 hb9 bt9
    have s9 : Same H7 H9 := fun b u e => bt9 b u (ne_of_none e nx9) (sm9 _ _ e)
    replace c := c.same s9
    clear hbuf hx hb7 hx8 nx9 ndx9 nex9 nx9' sm9 fl9 bt9 s9
    obtain ⟨zs, hz, hzr⟩ := id c.law
    have ex9 : ∀ {q : Addr} {vs : List V}, H9 q = some (.tup vs) → q ≠ x9 := fun {q vs} e z => by
      obtain ⟨dd, e2⟩ := hb9.ob
      rw [z, e2] at e; cases e
    have hl := hz.ls
    walk_at "rd"
    refine ⟨for_list (xs := zs.map rf) (fun i σ H' => Stop (∃ (t10 : Option V) (lf : Addr), σ = [some (.ref p), some (.int m), some (.ref a), some (.ref x), some (.ref x2), tu, some (.ref b), ir, some (.ref p3), some (.ref x9), t10] ∧ BufAt T.C_Buffer H' x9 lf m (rs.take i) ∧ But x9 H9 H')) ⟨⟨none, l9, rfl, hb9, But.refl _⟩⟩ (fun i σ H' hi h => ?_) (fun i v σ H' hv h => ?_) (fun σ H' h => ?_)⟩
    · obtain ⟨t10, lf, rfl, hbf, bt⟩ := h.h
      exact SqL.of (bt _ _ xa hl)
    · obtain ⟨t10, lf, rfl, hbf, bt⟩ := h.h
      rw [List.getElem?_map] at hv
      obtain ⟨z, hz1, rfl⟩ := Option.map_eq_some_iff.mp hv
      have ht : H' z.1 = some (.tup (vR z.2)) := bt _ _ (ex9 (hz.tp z (List.mem_of_getElem? hz1))) (hz.tp z (List.mem_of_getElem? hz1))
      have hr : rs[i]? = some z.2 := by rw [← hzr, List.getElem?_map, hz1]; rfl
      have rg := c.good.rg z.2 (List.mem_of_getElem? hr)
      have g41 := rg.1
      have g42 := rg.2.1
      have g43 := rg.2.2.1
      have g44 := rg.2.2.2
      have hle : ((rs.take i).length : Int) ≤ m := by have := c.good.le; simp; omega
      have a0 : atI (vR z.2) 0 = some (.int z.2.1) := rfl
      have a1 : atI (vR z.2) 1 = some (.int z.2.2.1) := rfl
      have a2 : atI (vR z.2) 2 = some (.int z.2.2.2.1) := rfl
      have a3 : atI (vR z.2) 3 = some (.int z.2.2.2.2) := rfl
      obtain ⟨dxf, hxf⟩ := id hbf.ob
      clear h ex9 hl hz
      walk_at "rd"
      intro l10 H10 fl10 hb10 b10
      rw [ent_take c.good hr] at hb10
      exact ⟨⟨_, l10, rfl, hb10, bt.trans b10⟩⟩
    obtain ⟨t10, lf, rfl, hbf, bt⟩ := h.h
    have er : rs.take (zs.map rf).length = rs := by rw [← hzr]; exact List.take_of_length_le (by simp)
    rw [er] at hbf
    simp only [List.mem_cons, List.not_mem_nil, or_false, not_or] at xn
    have hbuf : BufAt T.C_Buffer H' x l m rs := c.buf.out (S := [x9]) (Out.but bt (by simp)) (by simp; exact Ne.symm xn.2.1) (by simp; exact Ne.symm xn.2.2) (fun q hq vs e => by
        simp at hq
        obtain ⟨dd, e2⟩ := hb9.ob
        rw [hq, e2] at e; cases e)
    clear h ex9 hl hz hb9 bt
    obtain ⟨dx, hx⟩ := id hbuf.ob
    obtain ⟨dxf, hxf⟩ := id hbf.ob
    have ee : PyData.eqv (rD rs) (rD rs) = true := SeqAt.eqv_refl _ (SeqAt.canLay_of_shaped (rD_sh rs))
    clear xn xa er hzr SH c hm61 hm62 hm5 hm6 m0 m1
    walk_at "rd"
    refine Or.inl ⟨l, m, rs, hbuf, _, rfl, ?_⟩
    rw [decide_eq_true (rfl : m = m), Bool.true_and, ee]
    clear ee hbuf hbf hx hxf
    have h16 : (1 : Int) ≤ 1 ∧ (1 : Int) ≤ 6 := by decide
    walk_at "rd"
    intro x11 dx11 nx11 ndx11 nex11
    have nx11' : upd H' dx11 (.own x11) x11 = none := by rw [upd_ne (Ne.symm nex11)]; exact nx11
    walk_at "rd"
    intro l11 H11 fl11 hb11 bt11
    clear nx11 ndx11 nex11 nx11' fl11 bt11
    walk_at "rd"
    intro x12 dx12 nx12 ndx12 nex12
    have nx12' : upd H11 dx12 (.own x12) x12 = none := by rw [upd_ne (Ne.symm nex12)]; exact nx12
    have sm12 : Same H11 (upd (upd H11 dx12 (.own x12)) x12 (.ins T.C_Buffer dx12 [])) := Hx.Same.upd (same_upd ndx12) nx12'
    walk_at "rd"
    intro l12 H12 fl12 hb12 bt12
    have s12 : Same H11 H12 := fun b u e => bt12 b u (ne_of_none e nx12) (sm12 _ _ e)
    replace hb11 := hb11.same s12
    obtain ⟨dxa, hxa⟩ := id hb11.ob
    obtain ⟨dxb, hxb⟩ := id hb12.ob
    clear nx12 ndx12 nex12 nx12' fl12 bt12 sm12 s12
    walk_at "rd"
    refine Or.inl ⟨l12, 1, [], hb12, _, rfl, ?_⟩
    have e0 : PyData.eqv (rD []) (rD []) = true := SeqAt.eqv_refl _ (SeqAt.canLay_of_shaped (rD_sh []))
    rw [decide_eq_true (rfl : (1 : Int) = 1), Bool.true_and, e0]
    walk_at "rd"
    exact k _
end
end K56

set_option Elab.async false
set_option linter.all false
set_option maxRecDepth 100000
set_option maxHeartbeats 8000000

namespace K56
open PySem PySem.Spec PyProof.Rows L2 Hx 
local macro_rules | `(tactic| walk_at "sm") => `(tactic| repeat' (first | assumption | apply Hx.Same.upd | exact L2.Same.refl _ | apply same_trans'))
local macro_rules | `(tactic| walk_at "hp") => `(tactic| repeat' (first | assumption | exact upd_same | apply old_upd | apply same_at))
local macro_rules | `(tactic| walk_at "rd") => `(tactic| repeat' (first | rfl | apply Exists.intro | apply And.intro | refine iteT ?_ | refine iteF ?_ | exact upd_same | exact SqL.of (by assumption) | exact SqL.of upd_same | exact SqT.of upd_same | exact SqT.of (by assumption) | ((with_reducible show (_ : Int) < _); omega) | ((with_reducible show (_ : Int) ≤ _); omega) | (show (_ : Prop); assumption) | exact Or.inl ⟨_, by assumption, rfl⟩ | exact Or.inl ⟨rfl, _, SqL.of (by assumption)⟩ | exact Or.inl ⟨rfl, _, SqL.of upd_same⟩ | apply old_upd | apply Hx.SqL.new | apply tyl_new | apply Pot.new | exact same_at (by assumption) (by assumption) | exact Or.inl (SqL.of (by assumption)) | exact Or.inl (by assumption) | exact Or.inl (SqL.of upd_same) | exact size_le (Nat.le_of_ble_eq_true rfl) | exact Nat.le_of_ble_eq_true rfl | exact True.intro | exact Or.inl rfl | exact Or.inr rfl | (show (_ : Prop); omega) | (show (_ : Prop); dsimp only; omega) | exact mulw64 (by omega) (by omega) | exact mulw64 (by (try dsimp only); omega) (by (try dsimp only); omega)))

section
variable {P : Program} {w : World} {K : PySem.W.Frag} {mg : Str → Option Value} {base : Heap}
def sp_law (K : PySem.W.Frag) : Sp := fun vs H Q _ => ∃ (a : Addr) (ns : List Int), vs = [.ref a] ∧ SqL K H a (ns.map V.int) ∧ ns.length ≤ 63 ∧ ∀ H', Q (.bl true) H'
theorem ok_law (T : Txt K mg) : FnOk P w K mg base CX0 8 T.f_law T.fd_law ["_law_script"] (sp_law K) := by
  have G_Lright := ok_Lright (P := P) (w := w) (base := base) T
  have G_Lpot := ok_Lpot (P := P) (w := w) (base := base) T
  refine T.F_law.ok sc_law (fun vs H Q E h => ?_) (fun cdv A outer s H vs Q E hr h => ?_)
  · obtain ⟨a, ns, rfl, hS, hl, k⟩ := h; rfl
  · obtain ⟨a, ns, rfl, hS, hl, k⟩ := h
    refine ⟨_, (pss_one (ps_ret (pe_call G_Lright (hr.mono (by decide)) rfl T.g_Lright T.F_Lright.kp T.b_Lright .nil pass0 (pa_cons (pe_call G_Lpot (hr.mono (by decide)) rfl T.g_Lpot T.F_Lpot.kp T.b_Lpot .nil pass0 (pa_cons (pv 0) (pa_cons pe_int pa_nil))) pa_nil)))), ?_⟩
    clear G_Lright G_Lpot
    clear hr
    walk_at "rd"
    intro p H1 hp s1 hpot
    walk_at "rd"
end
end K56

set_option Elab.async false
set_option linter.all false
set_option maxRecDepth 100000
set_option maxHeartbeats 8000000

namespace K56
open PySem PySem.Spec PyProof.Rows L2 Hx
theorem all_mk {l : PySem.W.OpenLaw} {w : World} {K : PySem.W.Frag} {h : Heap} {mg : Str → Option Value} {fa : Addr} (X : K.In h) (G : h.Ns mainGlobals mg) (hfa : mg "law" = some (.ref fa))
    {C_Buffer : Addr}
    {f_is_integer : Addr} {od_is_integer an_is_integer : Option Addr} {sl_is_integer : Array (Option Value)} {oc_is_integer kV_is_integer dc_is_integer pm_is_integer cd_is_integer ct_is_integer : Value}
    {f_is_count : Addr} {od_is_count an_is_count : Option Addr} {sl_is_count : Array (Option Value)} {oc_is_count kV_is_count dc_is_count pm_is_count cd_is_count ct_is_count : Value}
    {f_is_between : Addr} {od_is_between an_is_between : Option Addr} {sl_is_between : Array (Option Value)} {oc_is_between kV_is_between dc_is_between pm_is_between cd_is_between ct_is_between : Value}
    {f_need_many : Addr} {od_need_many an_need_many : Option Addr} {sl_need_many : Array (Option Value)} {oc_need_many kV_need_many dc_need_many pm_need_many cd_need_many ct_need_many : Value}
    {f_is_word : Addr} {od_is_word an_is_word : Option Addr} {sl_is_word : Array (Option Value)} {oc_is_word kV_is_word dc_is_word pm_is_word cd_is_word ct_is_word : Value}
    {f_is_place : Addr} {od_is_place an_is_place : Option Addr} {sl_is_place : Array (Option Value)} {oc_is_place kV_is_place dc_is_place pm_is_place cd_is_place ct_is_place : Value}
    {f_need_word : Addr} {od_need_word an_need_word : Option Addr} {sl_need_word : Array (Option Value)} {oc_need_word kV_need_word dc_need_word pm_need_word cd_need_word ct_need_word : Value}
    {f_need_place : Addr} {od_need_place an_need_place : Option Addr} {sl_need_place : Array (Option Value)} {oc_need_place kV_need_place dc_need_place pm_need_place cd_need_place ct_need_place : Value}
    {f_is_memory_place : Addr} {od_is_memory_place an_is_memory_place : Option Addr} {sl_is_memory_place : Array (Option Value)} {oc_is_memory_place kV_is_memory_place dc_is_memory_place pm_is_memory_place cd_is_memory_place ct_is_memory_place : Value}
    {f_need_memory_place : Addr} {od_need_memory_place an_need_memory_place : Option Addr} {sl_need_memory_place : Array (Option Value)} {oc_need_memory_place kV_need_memory_place dc_need_memory_place pm_need_memory_place cd_need_memory_place ct_need_memory_place : Value}
    {f_is_page : Addr} {od_is_page an_is_page : Option Addr} {sl_is_page : Array (Option Value)} {oc_is_page kV_is_page dc_is_page pm_is_page cd_is_page ct_is_page : Value}
    {f_need_page : Addr} {od_need_page an_need_page : Option Addr} {sl_need_page : Array (Option Value)} {oc_need_page kV_need_page dc_need_page pm_need_page cd_need_page ct_need_page : Value}
    {f_Buffer_init : Addr} {od_Buffer_init an_Buffer_init : Option Addr} {sl_Buffer_init : Array (Option Value)} {oc_Buffer_init kV_Buffer_init dc_Buffer_init pm_Buffer_init cd_Buffer_init ct_Buffer_init : Value}
    {f_Buffer_most : Addr} {od_Buffer_most an_Buffer_most : Option Addr} {sl_Buffer_most : Array (Option Value)} {oc_Buffer_most kV_Buffer_most dc_Buffer_most pm_Buffer_most cd_Buffer_most ct_Buffer_most : Value}
    {pa_Buffer_most : Addr} {pr_Buffer_most : List Value}
    {f_Buffer_rows : Addr} {od_Buffer_rows an_Buffer_rows : Option Addr} {sl_Buffer_rows : Array (Option Value)} {oc_Buffer_rows kV_Buffer_rows dc_Buffer_rows pm_Buffer_rows cd_Buffer_rows ct_Buffer_rows : Value}
    {f_Buffer_found : Addr} {od_Buffer_found an_Buffer_found : Option Addr} {sl_Buffer_found : Array (Option Value)} {oc_Buffer_found kV_Buffer_found dc_Buffer_found pm_Buffer_found cd_Buffer_found ct_Buffer_found : Value}
    {f_Buffer_entered : Addr} {od_Buffer_entered an_Buffer_entered : Option Addr} {sl_Buffer_entered : Array (Option Value)} {oc_Buffer_entered kV_Buffer_entered dc_Buffer_entered pm_Buffer_entered cd_Buffer_entered ct_Buffer_entered : Value}
    {f_Buffer_stored : Addr} {od_Buffer_stored an_Buffer_stored : Option Addr} {sl_Buffer_stored : Array (Option Value)} {oc_Buffer_stored kV_Buffer_stored dc_Buffer_stored pm_Buffer_stored cd_Buffer_stored ct_Buffer_stored : Value}
    {f_Buffer_out : Addr} {od_Buffer_out an_Buffer_out : Option Addr} {sl_Buffer_out : Array (Option Value)} {oc_Buffer_out kV_Buffer_out dc_Buffer_out pm_Buffer_out cd_Buffer_out ct_Buffer_out : Value}
    {f_Buffer_cleared : Addr} {od_Buffer_cleared an_Buffer_cleared : Option Addr} {sl_Buffer_cleared : Array (Option Value)} {oc_Buffer_cleared kV_Buffer_cleared dc_Buffer_cleared pm_Buffer_cleared cd_Buffer_cleared ct_Buffer_cleared : Value}
    {f_Buffer_copy : Addr} {od_Buffer_copy an_Buffer_copy : Option Addr} {sl_Buffer_copy : Array (Option Value)} {oc_Buffer_copy kV_Buffer_copy dc_Buffer_copy pm_Buffer_copy cd_Buffer_copy ct_Buffer_copy : Value}
    {f_Buffer_eq : Addr} {od_Buffer_eq an_Buffer_eq : Option Addr} {sl_Buffer_eq : Array (Option Value)} {oc_Buffer_eq kV_Buffer_eq dc_Buffer_eq pm_Buffer_eq cd_Buffer_eq ct_Buffer_eq : Value}
    {f_Lpot : Addr} {od_Lpot an_Lpot : Option Addr} {sl_Lpot : Array (Option Value)} {oc_Lpot kV_Lpot dc_Lpot pm_Lpot cd_Lpot ct_Lpot : Value}
    {f_Ldraw : Addr} {od_Ldraw an_Ldraw : Option Addr} {sl_Ldraw : Array (Option Value)} {oc_Ldraw kV_Ldraw dc_Ldraw pm_Ldraw cd_Ldraw ct_Ldraw : Value}
    {f_Ldeed_right : Addr} {od_Ldeed_right an_Ldeed_right : Option Addr} {sl_Ldeed_right : Array (Option Value)} {oc_Ldeed_right kV_Ldeed_right dc_Ldeed_right pm_Ldeed_right cd_Ldeed_right ct_Ldeed_right : Value}
    {f_Lright : Addr} {od_Lright an_Lright : Option Addr} {sl_Lright : Array (Option Value)} {oc_Lright kV_Lright dc_Lright pm_Lright cd_Lright ct_Lright : Value}
    {f_law : Addr} {od_law an_law : Option Addr} {sl_law : Array (Option Value)} {oc_law kV_law dc_law pm_law cd_law ct_law : Value}
    {t_WORDS : Tok}
    {t_PLACES : Tok}
    {t_MEMORY_PLACES : Tok}
    {t__PAGES : Tok}
    {t__MOST_ENTRIES : Tok}
    
    (aC_Buffer : PySem.W.nsIn K mainGlobals "Buffer" = some (some (.ref C_Buffer))) (pg_Buffer : PySem.W.plainGet K C_Buffer Str.empty = true) (hd_Buffer : PySem.W.hasDictIn K C_Buffer = true) (po_Buffer : PySem.W.plainOver K C_Buffer = true) (sa_Buffer : PySem.W.findIn K (.ref C_Buffer) "__setattr__" = some (some (.builtin "object.__setattr__"))) (mk_Buffer : PySem.W.makesIn K C_Buffer = true) (kc_Buffer : PySem.W.keepIn K (.ref C_Buffer) = true)
    (n_Buffer_most : PySem.W.findIn K (.ref C_Buffer) "_most" = some none)
    (n_Buffer_rows : PySem.W.findIn K (.ref C_Buffer) "_rows" = some none)
    (a_is_integer : PySem.W.nsIn K mainGlobals "is_integer" = some (some (.ref f_is_integer)))
    (l_is_integer : K.lookup f_is_integer = some ⟨oc_is_integer, od_is_integer, .func (PySem.W.fnOf "is_integer" "is_integer" (defArgs s_is_integer) (defBody s_is_integer) (defScope s_is_integer) .none kV_is_integer dc_is_integer pm_is_integer an_is_integer cd_is_integer ct_is_integer), sl_is_integer⟩)
    (c_is_integer : PySem.W.codeIn K cd_is_integer "is_integer" = true) (k_is_integer : PySem.W.keepIn K (.ref f_is_integer) = true)
    (a_is_count : PySem.W.nsIn K mainGlobals "is_count" = some (some (.ref f_is_count)))
    (l_is_count : K.lookup f_is_count = some ⟨oc_is_count, od_is_count, .func (PySem.W.fnOf "is_count" "is_count" (defArgs s_is_count) (defBody s_is_count) (defScope s_is_count) .none kV_is_count dc_is_count pm_is_count an_is_count cd_is_count ct_is_count), sl_is_count⟩)
    (c_is_count : PySem.W.codeIn K cd_is_count "is_count" = true) (k_is_count : PySem.W.keepIn K (.ref f_is_count) = true)
    (a_is_between : PySem.W.nsIn K mainGlobals "is_between" = some (some (.ref f_is_between)))
    (l_is_between : K.lookup f_is_between = some ⟨oc_is_between, od_is_between, .func (PySem.W.fnOf "is_between" "is_between" (defArgs s_is_between) (defBody s_is_between) (defScope s_is_between) .none kV_is_between dc_is_between pm_is_between an_is_between cd_is_between ct_is_between), sl_is_between⟩)
    (c_is_between : PySem.W.codeIn K cd_is_between "is_between" = true) (k_is_between : PySem.W.keepIn K (.ref f_is_between) = true)
    (a_need_many : PySem.W.nsIn K mainGlobals "need_many" = some (some (.ref f_need_many)))
    (l_need_many : K.lookup f_need_many = some ⟨oc_need_many, od_need_many, .func (PySem.W.fnOf "need_many" "need_many" (defArgs s_need_many) (defBody s_need_many) (defScope s_need_many) .none kV_need_many dc_need_many pm_need_many an_need_many cd_need_many ct_need_many), sl_need_many⟩)
    (c_need_many : PySem.W.codeIn K cd_need_many "need_many" = true) (k_need_many : PySem.W.keepIn K (.ref f_need_many) = true)
    (a_is_word : PySem.W.nsIn K mainGlobals "is_word" = some (some (.ref f_is_word)))
    (l_is_word : K.lookup f_is_word = some ⟨oc_is_word, od_is_word, .func (PySem.W.fnOf "is_word" "is_word" (defArgs s_is_word) (defBody s_is_word) (defScope s_is_word) .none kV_is_word dc_is_word pm_is_word an_is_word cd_is_word ct_is_word), sl_is_word⟩)
    (c_is_word : PySem.W.codeIn K cd_is_word "is_word" = true) (k_is_word : PySem.W.keepIn K (.ref f_is_word) = true)
    (a_is_place : PySem.W.nsIn K mainGlobals "is_place" = some (some (.ref f_is_place)))
    (l_is_place : K.lookup f_is_place = some ⟨oc_is_place, od_is_place, .func (PySem.W.fnOf "is_place" "is_place" (defArgs s_is_place) (defBody s_is_place) (defScope s_is_place) .none kV_is_place dc_is_place pm_is_place an_is_place cd_is_place ct_is_place), sl_is_place⟩)
    (c_is_place : PySem.W.codeIn K cd_is_place "is_place" = true) (k_is_place : PySem.W.keepIn K (.ref f_is_place) = true)
    (a_need_word : PySem.W.nsIn K mainGlobals "need_word" = some (some (.ref f_need_word)))
    (l_need_word : K.lookup f_need_word = some ⟨oc_need_word, od_need_word, .func (PySem.W.fnOf "need_word" "need_word" (defArgs s_need_word) (defBody s_need_word) (defScope s_need_word) .none kV_need_word dc_need_word pm_need_word an_need_word cd_need_word ct_need_word), sl_need_word⟩)
    (c_need_word : PySem.W.codeIn K cd_need_word "need_word" = true) (k_need_word : PySem.W.keepIn K (.ref f_need_word) = true)
    (a_need_place : PySem.W.nsIn K mainGlobals "need_place" = some (some (.ref f_need_place)))
    (l_need_place : K.lookup f_need_place = some ⟨oc_need_place, od_need_place, .func (PySem.W.fnOf "need_place" "need_place" (defArgs s_need_place) (defBody s_need_place) (defScope s_need_place) .none kV_need_place dc_need_place pm_need_place an_need_place cd_need_place ct_need_place), sl_need_place⟩)
    (c_need_place : PySem.W.codeIn K cd_need_place "need_place" = true) (k_need_place : PySem.W.keepIn K (.ref f_need_place) = true)
    (a_is_memory_place : PySem.W.nsIn K mainGlobals "is_memory_place" = some (some (.ref f_is_memory_place)))
    (l_is_memory_place : K.lookup f_is_memory_place = some ⟨oc_is_memory_place, od_is_memory_place, .func (PySem.W.fnOf "is_memory_place" "is_memory_place" (defArgs s_is_memory_place) (defBody s_is_memory_place) (defScope s_is_memory_place) .none kV_is_memory_place dc_is_memory_place pm_is_memory_place an_is_memory_place cd_is_memory_place ct_is_memory_place), sl_is_memory_place⟩)
    (c_is_memory_place : PySem.W.codeIn K cd_is_memory_place "is_memory_place" = true) (k_is_memory_place : PySem.W.keepIn K (.ref f_is_memory_place) = true)
    (a_need_memory_place : PySem.W.nsIn K mainGlobals "need_memory_place" = some (some (.ref f_need_memory_place)))
    (l_need_memory_place : K.lookup f_need_memory_place = some ⟨oc_need_memory_place, od_need_memory_place, .func (PySem.W.fnOf "need_memory_place" "need_memory_place" (defArgs s_need_memory_place) (defBody s_need_memory_place) (defScope s_need_memory_place) .none kV_need_memory_place dc_need_memory_place pm_need_memory_place an_need_memory_place cd_need_memory_place ct_need_memory_place), sl_need_memory_place⟩)
    (c_need_memory_place : PySem.W.codeIn K cd_need_memory_place "need_memory_place" = true) (k_need_memory_place : PySem.W.keepIn K (.ref f_need_memory_place) = true)
    (a_is_page : PySem.W.nsIn K mainGlobals "is_page" = some (some (.ref f_is_page)))
    (l_is_page : K.lookup f_is_page = some ⟨oc_is_page, od_is_page, .func (PySem.W.fnOf "is_page" "is_page" (defArgs s_is_page) (defBody s_is_page) (defScope s_is_page) .none kV_is_page dc_is_page pm_is_page an_is_page cd_is_page ct_is_page), sl_is_page⟩)
    (c_is_page : PySem.W.codeIn K cd_is_page "is_page" = true) (k_is_page : PySem.W.keepIn K (.ref f_is_page) = true)
    (a_need_page : PySem.W.nsIn K mainGlobals "need_page" = some (some (.ref f_need_page)))
    (l_need_page : K.lookup f_need_page = some ⟨oc_need_page, od_need_page, .func (PySem.W.fnOf "need_page" "need_page" (defArgs s_need_page) (defBody s_need_page) (defScope s_need_page) .none kV_need_page dc_need_page pm_need_page an_need_page cd_need_page ct_need_page), sl_need_page⟩)
    (c_need_page : PySem.W.codeIn K cd_need_page "need_page" = true) (k_need_page : PySem.W.keepIn K (.ref f_need_page) = true)
    (a_Buffer_init : PySem.W.findIn K (.ref C_Buffer) "__init__" = some (some (.ref f_Buffer_init)))
    (i_Buffer_init : PySem.W.isFn K (.ref f_Buffer_init) = true)
    (l_Buffer_init : K.lookup f_Buffer_init = some ⟨oc_Buffer_init, od_Buffer_init, .func (PySem.W.fnOf "__init__" "Buffer.__init__" (defArgs s_Buffer_init) (defBody s_Buffer_init) (defScope s_Buffer_init) .none kV_Buffer_init dc_Buffer_init pm_Buffer_init an_Buffer_init cd_Buffer_init ct_Buffer_init), sl_Buffer_init⟩)
    (c_Buffer_init : PySem.W.codeIn K cd_Buffer_init "Buffer.__init__" = true) (k_Buffer_init : PySem.W.keepIn K (.ref f_Buffer_init) = true)
    (a_Buffer_most : PySem.W.findIn K (.ref C_Buffer) "most" = some (some (.ref pa_Buffer_most))) (pg_Buffer_most : PySem.W.specialIn K (.ref pa_Buffer_most) "__get__" = some (some (.builtin "property.__get__"))) (pt_Buffer_most : PySem.W.takesIn K (.ref pa_Buffer_most) = some true) (pq_Buffer_most : PySem.W.recIn K pa_Buffer_most "property" = some (.ref f_Buffer_most :: pr_Buffer_most))
    (l_Buffer_most : K.lookup f_Buffer_most = some ⟨oc_Buffer_most, od_Buffer_most, .func (PySem.W.fnOf "most" "Buffer.most" (defArgs s_Buffer_most) (defBody s_Buffer_most) (defScope s_Buffer_most) .none kV_Buffer_most dc_Buffer_most pm_Buffer_most an_Buffer_most cd_Buffer_most ct_Buffer_most), sl_Buffer_most⟩)
    (c_Buffer_most : PySem.W.codeIn K cd_Buffer_most "Buffer.most" = true) (k_Buffer_most : PySem.W.keepIn K (.ref f_Buffer_most) = true)
    (a_Buffer_rows : PySem.W.findIn K (.ref C_Buffer) "rows" = some (some (.ref f_Buffer_rows)))
    (i_Buffer_rows : PySem.W.isFn K (.ref f_Buffer_rows) = true)
    (l_Buffer_rows : K.lookup f_Buffer_rows = some ⟨oc_Buffer_rows, od_Buffer_rows, .func (PySem.W.fnOf "rows" "Buffer.rows" (defArgs s_Buffer_rows) (defBody s_Buffer_rows) (defScope s_Buffer_rows) .none kV_Buffer_rows dc_Buffer_rows pm_Buffer_rows an_Buffer_rows cd_Buffer_rows ct_Buffer_rows), sl_Buffer_rows⟩)
    (c_Buffer_rows : PySem.W.codeIn K cd_Buffer_rows "Buffer.rows" = true) (k_Buffer_rows : PySem.W.keepIn K (.ref f_Buffer_rows) = true)
    (a_Buffer_found : PySem.W.findIn K (.ref C_Buffer) "found" = some (some (.ref f_Buffer_found)))
    (i_Buffer_found : PySem.W.isFn K (.ref f_Buffer_found) = true)
    (l_Buffer_found : K.lookup f_Buffer_found = some ⟨oc_Buffer_found, od_Buffer_found, .func (PySem.W.fnOf "found" "Buffer.found" (defArgs s_Buffer_found) (defBody s_Buffer_found) (defScope s_Buffer_found) .none kV_Buffer_found dc_Buffer_found pm_Buffer_found an_Buffer_found cd_Buffer_found ct_Buffer_found), sl_Buffer_found⟩)
    (c_Buffer_found : PySem.W.codeIn K cd_Buffer_found "Buffer.found" = true) (k_Buffer_found : PySem.W.keepIn K (.ref f_Buffer_found) = true)
    (a_Buffer_entered : PySem.W.findIn K (.ref C_Buffer) "entered" = some (some (.ref f_Buffer_entered)))
    (i_Buffer_entered : PySem.W.isFn K (.ref f_Buffer_entered) = true)
    (l_Buffer_entered : K.lookup f_Buffer_entered = some ⟨oc_Buffer_entered, od_Buffer_entered, .func (PySem.W.fnOf "entered" "Buffer.entered" (defArgs s_Buffer_entered) (defBody s_Buffer_entered) (defScope s_Buffer_entered) .none kV_Buffer_entered dc_Buffer_entered pm_Buffer_entered an_Buffer_entered cd_Buffer_entered ct_Buffer_entered), sl_Buffer_entered⟩)
    (c_Buffer_entered : PySem.W.codeIn K cd_Buffer_entered "Buffer.entered" = true) (k_Buffer_entered : PySem.W.keepIn K (.ref f_Buffer_entered) = true)
    (a_Buffer_stored : PySem.W.findIn K (.ref C_Buffer) "stored" = some (some (.ref f_Buffer_stored)))
    (i_Buffer_stored : PySem.W.isFn K (.ref f_Buffer_stored) = true)
    (l_Buffer_stored : K.lookup f_Buffer_stored = some ⟨oc_Buffer_stored, od_Buffer_stored, .func (PySem.W.fnOf "stored" "Buffer.stored" (defArgs s_Buffer_stored) (defBody s_Buffer_stored) (defScope s_Buffer_stored) .none kV_Buffer_stored dc_Buffer_stored pm_Buffer_stored an_Buffer_stored cd_Buffer_stored ct_Buffer_stored), sl_Buffer_stored⟩)
    (c_Buffer_stored : PySem.W.codeIn K cd_Buffer_stored "Buffer.stored" = true) (k_Buffer_stored : PySem.W.keepIn K (.ref f_Buffer_stored) = true)
    (a_Buffer_out : PySem.W.findIn K (.ref C_Buffer) "out" = some (some (.ref f_Buffer_out)))
    (i_Buffer_out : PySem.W.isFn K (.ref f_Buffer_out) = true)
    (l_Buffer_out : K.lookup f_Buffer_out = some ⟨oc_Buffer_out, od_Buffer_out, .func (PySem.W.fnOf "out" "Buffer.out" (defArgs s_Buffer_out) (defBody s_Buffer_out) (defScope s_Buffer_out) .none kV_Buffer_out dc_Buffer_out pm_Buffer_out an_Buffer_out cd_Buffer_out ct_Buffer_out), sl_Buffer_out⟩)
    (c_Buffer_out : PySem.W.codeIn K cd_Buffer_out "Buffer.out" = true) (k_Buffer_out : PySem.W.keepIn K (.ref f_Buffer_out) = true)
    (a_Buffer_cleared : PySem.W.findIn K (.ref C_Buffer) "cleared" = some (some (.ref f_Buffer_cleared)))
    (i_Buffer_cleared : PySem.W.isFn K (.ref f_Buffer_cleared) = true)
    (l_Buffer_cleared : K.lookup f_Buffer_cleared = some ⟨oc_Buffer_cleared, od_Buffer_cleared, .func (PySem.W.fnOf "cleared" "Buffer.cleared" (defArgs s_Buffer_cleared) (defBody s_Buffer_cleared) (defScope s_Buffer_cleared) .none kV_Buffer_cleared dc_Buffer_cleared pm_Buffer_cleared an_Buffer_cleared cd_Buffer_cleared ct_Buffer_cleared), sl_Buffer_cleared⟩)
    (c_Buffer_cleared : PySem.W.codeIn K cd_Buffer_cleared "Buffer.cleared" = true) (k_Buffer_cleared : PySem.W.keepIn K (.ref f_Buffer_cleared) = true)
    (a_Buffer_copy : PySem.W.findIn K (.ref C_Buffer) "copy" = some (some (.ref f_Buffer_copy)))
    (i_Buffer_copy : PySem.W.isFn K (.ref f_Buffer_copy) = true)
    (l_Buffer_copy : K.lookup f_Buffer_copy = some ⟨oc_Buffer_copy, od_Buffer_copy, .func (PySem.W.fnOf "copy" "Buffer.copy" (defArgs s_Buffer_copy) (defBody s_Buffer_copy) (defScope s_Buffer_copy) .none kV_Buffer_copy dc_Buffer_copy pm_Buffer_copy an_Buffer_copy cd_Buffer_copy ct_Buffer_copy), sl_Buffer_copy⟩)
    (c_Buffer_copy : PySem.W.codeIn K cd_Buffer_copy "Buffer.copy" = true) (k_Buffer_copy : PySem.W.keepIn K (.ref f_Buffer_copy) = true)
    (a_Buffer_eq : PySem.W.findIn K (.ref C_Buffer) "__eq__" = some (some (.ref f_Buffer_eq)))
    (i_Buffer_eq : PySem.W.isFn K (.ref f_Buffer_eq) = true)
    (l_Buffer_eq : K.lookup f_Buffer_eq = some ⟨oc_Buffer_eq, od_Buffer_eq, .func (PySem.W.fnOf "__eq__" "Buffer.__eq__" (defArgs s_Buffer_eq) (defBody s_Buffer_eq) (defScope s_Buffer_eq) .none kV_Buffer_eq dc_Buffer_eq pm_Buffer_eq an_Buffer_eq cd_Buffer_eq ct_Buffer_eq), sl_Buffer_eq⟩)
    (c_Buffer_eq : PySem.W.codeIn K cd_Buffer_eq "Buffer.__eq__" = true) (k_Buffer_eq : PySem.W.keepIn K (.ref f_Buffer_eq) = true)
    (a_Lpot : PySem.W.nsIn K mainGlobals "_law_pot" = some (some (.ref f_Lpot)))
    (l_Lpot : K.lookup f_Lpot = some ⟨oc_Lpot, od_Lpot, .func (PySem.W.fnOf "_law_pot" "_law_pot" (defArgs s_Lpot) (defBody s_Lpot) (defScope s_Lpot) .none kV_Lpot dc_Lpot pm_Lpot an_Lpot cd_Lpot ct_Lpot), sl_Lpot⟩)
    (c_Lpot : PySem.W.codeIn K cd_Lpot "_law_pot" = true) (k_Lpot : PySem.W.keepIn K (.ref f_Lpot) = true)
    (a_Ldraw : PySem.W.nsIn K mainGlobals "_law_draw" = some (some (.ref f_Ldraw)))
    (l_Ldraw : K.lookup f_Ldraw = some ⟨oc_Ldraw, od_Ldraw, .func (PySem.W.fnOf "_law_draw" "_law_draw" (defArgs s_Ldraw) (defBody s_Ldraw) (defScope s_Ldraw) .none kV_Ldraw dc_Ldraw pm_Ldraw an_Ldraw cd_Ldraw ct_Ldraw), sl_Ldraw⟩)
    (c_Ldraw : PySem.W.codeIn K cd_Ldraw "_law_draw" = true) (k_Ldraw : PySem.W.keepIn K (.ref f_Ldraw) = true)
    (a_Ldeed_right : PySem.W.nsIn K mainGlobals "_law_deed_right" = some (some (.ref f_Ldeed_right)))
    (l_Ldeed_right : K.lookup f_Ldeed_right = some ⟨oc_Ldeed_right, od_Ldeed_right, .func (PySem.W.fnOf "_law_deed_right" "_law_deed_right" (defArgs s_Ldeed_right) (defBody s_Ldeed_right) (defScope s_Ldeed_right) .none kV_Ldeed_right dc_Ldeed_right pm_Ldeed_right an_Ldeed_right cd_Ldeed_right ct_Ldeed_right), sl_Ldeed_right⟩)
    (c_Ldeed_right : PySem.W.codeIn K cd_Ldeed_right "_law_deed_right" = true) (k_Ldeed_right : PySem.W.keepIn K (.ref f_Ldeed_right) = true)
    (a_Lright : PySem.W.nsIn K mainGlobals "_law_right" = some (some (.ref f_Lright)))
    (l_Lright : K.lookup f_Lright = some ⟨oc_Lright, od_Lright, .func (PySem.W.fnOf "_law_right" "_law_right" (defArgs s_Lright) (defBody s_Lright) (defScope s_Lright) .none kV_Lright dc_Lright pm_Lright an_Lright cd_Lright ct_Lright), sl_Lright⟩)
    (c_Lright : PySem.W.codeIn K cd_Lright "_law_right" = true) (k_Lright : PySem.W.keepIn K (.ref f_Lright) = true)
    (a_law : PySem.W.nsIn K mainGlobals "law" = some (some (.ref f_law)))
    (l_law : K.lookup f_law = some ⟨oc_law, od_law, .func (PySem.W.fnOf "law" "law" (defArgs s_law) (defBody s_law) (defScope s_law) .none kV_law dc_law pm_law an_law cd_law ct_law), sl_law⟩)
    (c_law : PySem.W.codeIn K cd_law "law" = true) (k_law : PySem.W.keepIn K (.ref f_law) = true)
    (z_abs : PySem.W.nsIn K mainGlobals "abs" = some none)
    (z_bool : PySem.W.nsIn K mainGlobals "bool" = some none)
    (z_divmod : PySem.W.nsIn K mainGlobals "divmod" = some none)
    (z_int : PySem.W.nsIn K mainGlobals "int" = some none)
    (z_isinstance : PySem.W.nsIn K mainGlobals "isinstance" = some none)
    (z_len : PySem.W.nsIn K mainGlobals "len" = some none)
    (z_list : PySem.W.nsIn K mainGlobals "list" = some none)
    (z_max : PySem.W.nsIn K mainGlobals "max" = some none)
    (z_range : PySem.W.nsIn K mainGlobals "range" = some none)
    (x_WORDS : PySem.W.nsIn K mainGlobals "WORDS" = some (some (.int 65536 t_WORDS)))
    (x_PLACES : PySem.W.nsIn K mainGlobals "PLACES" = some (some (.int 1024 t_PLACES)))
    (x_MEMORY_PLACES : PySem.W.nsIn K mainGlobals "MEMORY_PLACES" = some (some (.int 960 t_MEMORY_PLACES)))
    (x__PAGES : PySem.W.nsIn K mainGlobals "_PAGES" = some (some (.int 256 t__PAGES)))
    (x__MOST_ENTRIES : PySem.W.nsIn K mainGlobals "_MOST_ENTRIES" = some (some (.int 16 t__MOST_ENTRIES)))
    (ic_Buffer : PySem.W.findIn K (.ref C_Buffer) "__class__" = some (some (.builtin "object.__class__"))) (in_Buffer : PySem.W.specialIn K (.builtin "object.__class__") "__get__" = some (some (.builtin "getset_descriptor.__get__"))) (it_Buffer : PySem.W.takesIn K (.builtin "object.__class__") = some true) (im_Buffer : PySem.W.mroIn K C_Buffer (.type "object") = some true) (sl_Buffer : PySem.W.subIn K (.type "list") (.ref C_Buffer) = some false) (ik_Buffer : PySem.W.isClsIn K C_Buffer = true) (ty_Buffer : PySem.W.typeIn K (.ref C_Buffer) = some (.type "type"))
    : ∃ fd : FuncData, (∀ (s : Shared) (v : Value), BindsTo s fd ⟨[v], []⟩ [("_law_script", v)]) ∧ ∀ base : Heap, K.In base → base.Ns mainGlobals mg → FnOk l.prog w K mg base CX0 8 fa fd ["_law_script"] (sp_law K) := by
  have e := hfa.symm.trans (PySem.W.mg_of X G a_law)
  cases e
  let T : Txt K mg := {
    C_Buffer := C_Buffer, cl_Buffer := ⟨pg_Buffer, hd_Buffer, po_Buffer, sa_Buffer⟩, g_Buffer := PySem.W.mg_of X G aC_Buffer,
    n_Buffer_most := n_Buffer_most,
    n_Buffer_rows := n_Buffer_rows,
    f_is_integer := _, fd_is_integer := _, F_is_integer := fun_mk (st := s_is_integer) l_is_integer c_is_integer k_is_integer,
    g_is_integer := PySem.W.mg_of X G a_is_integer,
    b_is_integer := (fun_mk (st := s_is_integer) l_is_integer c_is_integer k_is_integer).binds (ps := ["value"]) fun _ _ _ _ _ _ us hl => match us, hl with | [_], _ => rfl,
    f_is_count := _, fd_is_count := _, F_is_count := fun_mk (st := s_is_count) l_is_count c_is_count k_is_count,
    g_is_count := PySem.W.mg_of X G a_is_count,
    b_is_count := (fun_mk (st := s_is_count) l_is_count c_is_count k_is_count).binds (ps := ["value"]) fun _ _ _ _ _ _ us hl => match us, hl with | [_], _ => rfl,
    f_is_between := _, fd_is_between := _, F_is_between := fun_mk (st := s_is_between) l_is_between c_is_between k_is_between,
    g_is_between := PySem.W.mg_of X G a_is_between,
    b_is_between := (fun_mk (st := s_is_between) l_is_between c_is_between k_is_between).binds (ps := ["value", "least", "most"]) fun _ _ _ _ _ _ us hl => match us, hl with | [_, _, _], _ => rfl,
    f_need_many := _, fd_need_many := _, F_need_many := fun_mk (st := s_need_many) l_need_many c_need_many k_need_many,
    g_need_many := PySem.W.mg_of X G a_need_many,
    b_need_many := (fun_mk (st := s_need_many) l_need_many c_need_many k_need_many).binds (ps := ["value", "least", "most"]) fun _ _ _ _ _ _ us hl => match us, hl with | [_, _, _], _ => rfl,
    f_is_word := _, fd_is_word := _, F_is_word := fun_mk (st := s_is_word) l_is_word c_is_word k_is_word,
    g_is_word := PySem.W.mg_of X G a_is_word,
    b_is_word := (fun_mk (st := s_is_word) l_is_word c_is_word k_is_word).binds (ps := ["value"]) fun _ _ _ _ _ _ us hl => match us, hl with | [_], _ => rfl,
    f_is_place := _, fd_is_place := _, F_is_place := fun_mk (st := s_is_place) l_is_place c_is_place k_is_place,
    g_is_place := PySem.W.mg_of X G a_is_place,
    b_is_place := (fun_mk (st := s_is_place) l_is_place c_is_place k_is_place).binds (ps := ["value"]) fun _ _ _ _ _ _ us hl => match us, hl with | [_], _ => rfl,
    f_need_word := _, fd_need_word := _, F_need_word := fun_mk (st := s_need_word) l_need_word c_need_word k_need_word,
    g_need_word := PySem.W.mg_of X G a_need_word,
    b_need_word := (fun_mk (st := s_need_word) l_need_word c_need_word k_need_word).binds (ps := ["value"]) fun _ _ _ _ _ _ us hl => match us, hl with | [_], _ => rfl,
    f_need_place := _, fd_need_place := _, F_need_place := fun_mk (st := s_need_place) l_need_place c_need_place k_need_place,
    g_need_place := PySem.W.mg_of X G a_need_place,
    b_need_place := (fun_mk (st := s_need_place) l_need_place c_need_place k_need_place).binds (ps := ["value"]) fun _ _ _ _ _ _ us hl => match us, hl with | [_], _ => rfl,
    f_is_memory_place := _, fd_is_memory_place := _, F_is_memory_place := fun_mk (st := s_is_memory_place) l_is_memory_place c_is_memory_place k_is_memory_place,
    g_is_memory_place := PySem.W.mg_of X G a_is_memory_place,
    b_is_memory_place := (fun_mk (st := s_is_memory_place) l_is_memory_place c_is_memory_place k_is_memory_place).binds (ps := ["value"]) fun _ _ _ _ _ _ us hl => match us, hl with | [_], _ => rfl,
    f_need_memory_place := _, fd_need_memory_place := _, F_need_memory_place := fun_mk (st := s_need_memory_place) l_need_memory_place c_need_memory_place k_need_memory_place,
    g_need_memory_place := PySem.W.mg_of X G a_need_memory_place,
    b_need_memory_place := (fun_mk (st := s_need_memory_place) l_need_memory_place c_need_memory_place k_need_memory_place).binds (ps := ["value"]) fun _ _ _ _ _ _ us hl => match us, hl with | [_], _ => rfl,
    f_is_page := _, fd_is_page := _, F_is_page := fun_mk (st := s_is_page) l_is_page c_is_page k_is_page,
    g_is_page := PySem.W.mg_of X G a_is_page,
    b_is_page := (fun_mk (st := s_is_page) l_is_page c_is_page k_is_page).binds (ps := ["value"]) fun _ _ _ _ _ _ us hl => match us, hl with | [_], _ => rfl,
    f_need_page := _, fd_need_page := _, F_need_page := fun_mk (st := s_need_page) l_need_page c_need_page k_need_page,
    g_need_page := PySem.W.mg_of X G a_need_page,
    b_need_page := (fun_mk (st := s_need_page) l_need_page c_need_page k_need_page).binds (ps := ["value"]) fun _ _ _ _ _ _ us hl => match us, hl with | [_], _ => rfl,
    mk_Buffer := ⟨mk_Buffer, a_Buffer_init, i_Buffer_init, kc_Buffer⟩,
    f_Buffer_init := _, fd_Buffer_init := _, F_Buffer_init := fun_mk (st := s_Buffer_init) l_Buffer_init c_Buffer_init k_Buffer_init,
    b_Buffer_init := (fun_mk (st := s_Buffer_init) l_Buffer_init c_Buffer_init k_Buffer_init).binds (ps := ["self", "many"]) fun _ _ _ _ _ _ us hl => match us, hl with | [_, _], _ => rfl,
    kp_Buffer_init_1_0 := kw_bindsN (fun_mk (st := s_Buffer_init) l_Buffer_init c_Buffer_init k_Buffer_init) (by decide) fun _ _ _ _ _ _ us ws h1 h2 => match us, ws, h1, h2 with | [_], [_], _, _ => rfl,
    pa_Buffer_most := pa_Buffer_most, p_Buffer_most := ⟨a_Buffer_most, pg_Buffer_most, pt_Buffer_most, ⟨_, pq_Buffer_most⟩⟩,
    f_Buffer_most := _, fd_Buffer_most := _, F_Buffer_most := fun_mk (st := s_Buffer_most) l_Buffer_most c_Buffer_most k_Buffer_most,
    b_Buffer_most := (fun_mk (st := s_Buffer_most) l_Buffer_most c_Buffer_most k_Buffer_most).binds (ps := ["self"]) fun _ _ _ _ _ _ us hl => match us, hl with | [_], _ => rfl,
    me_Buffer_rows := ⟨a_Buffer_rows, i_Buffer_rows, k_Buffer_rows⟩,
    f_Buffer_rows := _, fd_Buffer_rows := _, F_Buffer_rows := fun_mk (st := s_Buffer_rows) l_Buffer_rows c_Buffer_rows k_Buffer_rows,
    b_Buffer_rows := (fun_mk (st := s_Buffer_rows) l_Buffer_rows c_Buffer_rows k_Buffer_rows).binds (ps := ["self"]) fun _ _ _ _ _ _ us hl => match us, hl with | [_], _ => rfl,
    me_Buffer_found := ⟨a_Buffer_found, i_Buffer_found, k_Buffer_found⟩,
    f_Buffer_found := _, fd_Buffer_found := _, F_Buffer_found := fun_mk (st := s_Buffer_found) l_Buffer_found c_Buffer_found k_Buffer_found,
    b_Buffer_found := (fun_mk (st := s_Buffer_found) l_Buffer_found c_Buffer_found k_Buffer_found).binds (ps := ["self", "page"]) fun _ _ _ _ _ _ us hl => match us, hl with | [_, _], _ => rfl,
    kb_Buffer_found := kw_bindsM (fun_mk (st := s_Buffer_found) l_Buffer_found c_Buffer_found k_Buffer_found) (by decide) fun _ _ _ _ _ _ u us hl => match us, hl with | [_], _ => rfl,
    me_Buffer_entered := ⟨a_Buffer_entered, i_Buffer_entered, k_Buffer_entered⟩,
    f_Buffer_entered := _, fd_Buffer_entered := _, F_Buffer_entered := fun_mk (st := s_Buffer_entered) l_Buffer_entered c_Buffer_entered k_Buffer_entered,
    b_Buffer_entered := (fun_mk (st := s_Buffer_entered) l_Buffer_entered c_Buffer_entered k_Buffer_entered).binds (ps := ["self", "page", "first", "second", "word"]) fun _ _ _ _ _ _ us hl => match us, hl with | [_, _, _, _, _], _ => rfl,
    kp_Buffer_entered_1_3210 := kw_bindsP (fun_mk (st := s_Buffer_entered) l_Buffer_entered c_Buffer_entered k_Buffer_entered) (by decide) fun _ _ _ _ _ _ us ws h1 h2 => match us, ws, h1, h2 with | [_], [_, _, _, _], _, _ => rfl,
    me_Buffer_stored := ⟨a_Buffer_stored, i_Buffer_stored, k_Buffer_stored⟩,
    f_Buffer_stored := _, fd_Buffer_stored := _, F_Buffer_stored := fun_mk (st := s_Buffer_stored) l_Buffer_stored c_Buffer_stored k_Buffer_stored,
    b_Buffer_stored := (fun_mk (st := s_Buffer_stored) l_Buffer_stored c_Buffer_stored k_Buffer_stored).binds (ps := ["self", "place"]) fun _ _ _ _ _ _ us hl => match us, hl with | [_, _], _ => rfl,
    me_Buffer_out := ⟨a_Buffer_out, i_Buffer_out, k_Buffer_out⟩,
    f_Buffer_out := _, fd_Buffer_out := _, F_Buffer_out := fun_mk (st := s_Buffer_out) l_Buffer_out c_Buffer_out k_Buffer_out,
    b_Buffer_out := (fun_mk (st := s_Buffer_out) l_Buffer_out c_Buffer_out k_Buffer_out).binds (ps := ["self", "position"]) fun _ _ _ _ _ _ us hl => match us, hl with | [_, _], _ => rfl,
    me_Buffer_cleared := ⟨a_Buffer_cleared, i_Buffer_cleared, k_Buffer_cleared⟩,
    f_Buffer_cleared := _, fd_Buffer_cleared := _, F_Buffer_cleared := fun_mk (st := s_Buffer_cleared) l_Buffer_cleared c_Buffer_cleared k_Buffer_cleared,
    b_Buffer_cleared := (fun_mk (st := s_Buffer_cleared) l_Buffer_cleared c_Buffer_cleared k_Buffer_cleared).binds (ps := ["self"]) fun _ _ _ _ _ _ us hl => match us, hl with | [_], _ => rfl,
    me_Buffer_copy := ⟨a_Buffer_copy, i_Buffer_copy, k_Buffer_copy⟩,
    f_Buffer_copy := _, fd_Buffer_copy := _, F_Buffer_copy := fun_mk (st := s_Buffer_copy) l_Buffer_copy c_Buffer_copy k_Buffer_copy,
    b_Buffer_copy := (fun_mk (st := s_Buffer_copy) l_Buffer_copy c_Buffer_copy k_Buffer_copy).binds (ps := ["self"]) fun _ _ _ _ _ _ us hl => match us, hl with | [_], _ => rfl,
    me_Buffer_eq := ⟨a_Buffer_eq, i_Buffer_eq, k_Buffer_eq⟩,
    f_Buffer_eq := _, fd_Buffer_eq := _, F_Buffer_eq := fun_mk (st := s_Buffer_eq) l_Buffer_eq c_Buffer_eq k_Buffer_eq,
    b_Buffer_eq := (fun_mk (st := s_Buffer_eq) l_Buffer_eq c_Buffer_eq k_Buffer_eq).binds (ps := ["self", "other"]) fun _ _ _ _ _ _ us hl => match us, hl with | [_, _], _ => rfl,
    f_Lpot := _, fd_Lpot := _, F_Lpot := fun_mk (st := s_Lpot) l_Lpot c_Lpot k_Lpot,
    g_Lpot := PySem.W.mg_of X G a_Lpot,
    b_Lpot := (fun_mk (st := s_Lpot) l_Lpot c_Lpot k_Lpot).binds (ps := ["_law_script", "_law_k"]) fun _ _ _ _ _ _ us hl => match us, hl with | [_, _], _ => rfl,
    f_Ldraw := _, fd_Ldraw := _, F_Ldraw := fun_mk (st := s_Ldraw) l_Ldraw c_Ldraw k_Ldraw,
    g_Ldraw := PySem.W.mg_of X G a_Ldraw,
    b_Ldraw := (fun_mk (st := s_Ldraw) l_Ldraw c_Ldraw k_Ldraw).binds (ps := ["_law_pot_here", "_law_many"]) fun _ _ _ _ _ _ us hl => match us, hl with | [_, _], _ => rfl,
    f_Ldeed_right := _, fd_Ldeed_right := _, F_Ldeed_right := fun_mk (st := s_Ldeed_right) l_Ldeed_right c_Ldeed_right k_Ldeed_right,
    g_Ldeed_right := PySem.W.mg_of X G a_Ldeed_right,
    b_Ldeed_right := (fun_mk (st := s_Ldeed_right) l_Ldeed_right c_Ldeed_right k_Ldeed_right).binds (ps := ["_law_pot_here", "_law_kept", "_law_rows", "_law_many"]) fun _ _ _ _ _ _ us hl => match us, hl with | [_, _, _, _], _ => rfl,
    f_Lright := _, fd_Lright := _, F_Lright := fun_mk (st := s_Lright) l_Lright c_Lright k_Lright,
    g_Lright := PySem.W.mg_of X G a_Lright,
    b_Lright := (fun_mk (st := s_Lright) l_Lright c_Lright k_Lright).binds (ps := ["_law_pot_here"]) fun _ _ _ _ _ _ us hl => match us, hl with | [_], _ => rfl,
    f_law := _, fd_law := _, F_law := fun_mk (st := s_law) l_law c_law k_law,
    g_law := PySem.W.mg_of X G a_law,
    b_law := (fun_mk (st := s_law) l_law c_law k_law).binds (ps := ["_law_script"]) fun _ _ _ _ _ _ us hl => match us, hl with | [_], _ => rfl,
    m_abs := PySem.W.mg_none_of X G z_abs,
    m_bool := PySem.W.mg_none_of X G z_bool,
    m_divmod := PySem.W.mg_none_of X G z_divmod,
    m_int := PySem.W.mg_none_of X G z_int,
    m_isinstance := PySem.W.mg_none_of X G z_isinstance,
    m_len := PySem.W.mg_none_of X G z_len,
    m_list := PySem.W.mg_none_of X G z_list,
    m_max := PySem.W.mg_none_of X G z_max,
    m_range := PySem.W.mg_none_of X G z_range,
    c_WORDS := ⟨_, PySem.W.mg_of X G x_WORDS⟩,
    c_PLACES := ⟨_, PySem.W.mg_of X G x_PLACES⟩,
    c_MEMORY_PLACES := ⟨_, PySem.W.mg_of X G x_MEMORY_PLACES⟩,
    c__PAGES := ⟨_, PySem.W.mg_of X G x__PAGES⟩,
    c__MOST_ENTRIES := ⟨_, PySem.W.mg_of X G x__MOST_ENTRIES⟩,
    ic_Buffer := ic_Buffer,
    in_Buffer := in_Buffer,
    it_Buffer := it_Buffer,
    im_Buffer := im_Buffer,
    sl_Buffer := sl_Buffer,
    ik_Buffer := ik_Buffer,
    ty_Buffer := ty_Buffer }
  exact ⟨_, fun s v => .of_eq rfl, fun base _ _ => ok_law (P := l.prog) (w := w) (base := base) T⟩
theorem walk {l : PySem.W.OpenLaw} {q : Program} {loose : List Str} {XP : (Str → Option Value) → Heap → Prop} {YP : World → Heap → Prop} {d : DefRec} {K : Params → PySem.W.Frag} (hn : l.most = some 63) (hdf : d.params.defaults = [])
    (hY : ∀ (w : World) (h : Heap), YP w h → (K w.params).In h)
    (F : ∀ (w : World) (mg : Str → Option Value) (fa : Addr) (h : Heap), (K w.params).In h → h.Ns mainGlobals mg → mg d.name = some (.ref fa) →
      ∃ fd : FuncData, (∀ (s : Shared) (u : Value), BindsTo s fd ⟨[u], []⟩ [("_law_script", u)]) ∧ ∀ base : Heap, (K w.params).In base → base.Ns mainGlobals mg → FnOk l.prog w (K w.params) mg base CX0 8 fa fd ["_law_script"] (sp_law (K w.params))) :
    PySem.W.WalkO q loose XP YP l.row.toRowW d [] (fun f vs => PySem.call f vs) :=
  L2.walk_of (n := 63) (k := 8) (x := "_law_script") (CX := fun _ => CX0) (sp := fun w => sp_law (K w.params)) hn (by decide) hdf ⟨rfl, by decide, by decide⟩ hY F (fun _ _ a ns hl _ hS => ⟨a, ns, rfl, hS, hl, fun _ => rfl⟩) fun _ _ _ _ _ z => z
end K56
open PySem PySem.W PyProof.Rows
set_option maxRecDepth 100000 in
set_option maxHeartbeats 0 in
theorem PySem.Challenge.cw_orderlycore_k56_whole_the_buffer_by_an_o_holds : PySem.Challenge.rw_orderlycore_k56_whole_the_buffer_by_an_o.Holds := by
  w_on; o_law; k_head; (case hw => w_witness2)
  k_fill
  refine K56.walk (l := PySem.Challenge.rw_orderlycore_k56_whole_the_buffer_by_an_o) rfl rfl (fun w h Y => PySem.W.kIn_of Y) ?F
  case F =>
    intro w mg fa h KX G hmg
    refine' K56.all_mk KX G hmg ?aC_Buffer ?pg_Buffer ?hd_Buffer ?po_Buffer ?sa_Buffer ?mk_Buffer ?kc_Buffer ?n_Buffer_most ?n_Buffer_rows ?a_is_integer ?l_is_integer ?c_is_integer ?k_is_integer ?a_is_count ?l_is_count ?c_is_count ?k_is_count ?a_is_between ?l_is_between ?c_is_between ?k_is_between ?a_need_many ?l_need_many ?c_need_many ?k_need_many ?a_is_word ?l_is_word ?c_is_word ?k_is_word ?a_is_place ?l_is_place ?c_is_place ?k_is_place ?a_need_word ?l_need_word ?c_need_word ?k_need_word ?a_need_place ?l_need_place ?c_need_place ?k_need_place ?a_is_memory_place ?l_is_memory_place ?c_is_memory_place ?k_is_memory_place ?a_need_memory_place ?l_need_memory_place ?c_need_memory_place ?k_need_memory_place ?a_is_page ?l_is_page ?c_is_page ?k_is_page ?a_need_page ?l_need_page ?c_need_page ?k_need_page ?a_Buffer_init ?i_Buffer_init ?l_Buffer_init ?c_Buffer_init ?k_Buffer_init ?a_Buffer_most ?pg_Buffer_most ?pt_Buffer_most ?pq_Buffer_most ?l_Buffer_most ?c_Buffer_most ?k_Buffer_most ?a_Buffer_rows ?i_Buffer_rows ?l_Buffer_rows ?c_Buffer_rows ?k_Buffer_rows ?a_Buffer_found ?i_Buffer_found ?l_Buffer_found ?c_Buffer_found ?k_Buffer_found ?a_Buffer_entered ?i_Buffer_entered ?l_Buffer_entered ?c_Buffer_entered ?k_Buffer_entered ?a_Buffer_stored ?i_Buffer_stored ?l_Buffer_stored ?c_Buffer_stored ?k_Buffer_stored ?a_Buffer_out ?i_Buffer_out ?l_Buffer_out ?c_Buffer_out ?k_Buffer_out ?a_Buffer_cleared ?i_Buffer_cleared ?l_Buffer_cleared ?c_Buffer_cleared ?k_Buffer_cleared ?a_Buffer_copy ?i_Buffer_copy ?l_Buffer_copy ?c_Buffer_copy ?k_Buffer_copy ?a_Buffer_eq ?i_Buffer_eq ?l_Buffer_eq ?c_Buffer_eq ?k_Buffer_eq ?a_Lpot ?l_Lpot ?c_Lpot ?k_Lpot ?a_Ldraw ?l_Ldraw ?c_Ldraw ?k_Ldraw ?a_Ldeed_right ?l_Ldeed_right ?c_Ldeed_right ?k_Ldeed_right ?a_Lright ?l_Lright ?c_Lright ?k_Lright ?a_law ?l_law ?c_law ?k_law ?z_abs ?z_bool ?z_divmod ?z_int ?z_isinstance ?z_len ?z_list ?z_max ?z_range ?x_WORDS ?x_PLACES ?x_MEMORY_PLACES ?x__PAGES ?x__MOST_ENTRIES ?ic_Buffer ?in_Buffer ?it_Buffer ?im_Buffer ?sl_Buffer ?ik_Buffer ?ty_Buffer
    (case aC_Buffer => k_is)
    (case pg_Buffer => k_is)
    (case hd_Buffer => k_is)
    (case po_Buffer => k_is)
    (case sa_Buffer => k_is)
    (case mk_Buffer => k_is)
    (case kc_Buffer => k_is)
    (case n_Buffer_most => k_is)
    (case n_Buffer_rows => k_is)
    (case a_is_integer => k_is)
    (case l_is_integer => k_is)
    (case c_is_integer => k_is)
    (case k_is_integer => k_is)
    (case a_is_count => k_is)
    (case l_is_count => k_is)
    (case c_is_count => k_is)
    (case k_is_count => k_is)
    (case a_is_between => k_is)
    (case l_is_between => k_is)
    (case c_is_between => k_is)
    (case k_is_between => k_is)
    (case a_need_many => k_is)
    (case l_need_many => k_is)
    (case c_need_many => k_is)
    (case k_need_many => k_is)
    (case a_is_word => k_is)
    (case l_is_word => k_is)
    (case c_is_word => k_is)
    (case k_is_word => k_is)
    (case a_is_place => k_is)
    (case l_is_place => k_is)
    (case c_is_place => k_is)
    (case k_is_place => k_is)
    (case a_need_word => k_is)
    (case l_need_word => k_is)
    (case c_need_word => k_is)
    (case k_need_word => k_is)
    (case a_need_place => k_is)
    (case l_need_place => k_is)
    (case c_need_place => k_is)
    (case k_need_place => k_is)
    (case a_is_memory_place => k_is)
    (case l_is_memory_place => k_is)
    (case c_is_memory_place => k_is)
    (case k_is_memory_place => k_is)
    (case a_need_memory_place => k_is)
    (case l_need_memory_place => k_is)
    (case c_need_memory_place => k_is)
    (case k_need_memory_place => k_is)
    (case a_is_page => k_is)
    (case l_is_page => k_is)
    (case c_is_page => k_is)
    (case k_is_page => k_is)
    (case a_need_page => k_is)
    (case l_need_page => k_is)
    (case c_need_page => k_is)
    (case k_need_page => k_is)
    (case a_Buffer_init => k_is)
    (case i_Buffer_init => k_is)
    (case l_Buffer_init => k_is)
    (case c_Buffer_init => k_is)
    (case k_Buffer_init => k_is)
    (case a_Buffer_most => k_is)
    (case pg_Buffer_most => k_is)
    (case pt_Buffer_most => k_is)
    (case pq_Buffer_most => k_is)
    (case l_Buffer_most => k_is)
    (case c_Buffer_most => k_is)
    (case k_Buffer_most => k_is)
    (case a_Buffer_rows => k_is)
    (case i_Buffer_rows => k_is)
    (case l_Buffer_rows => k_is)
    (case c_Buffer_rows => k_is)
    (case k_Buffer_rows => k_is)
    (case a_Buffer_found => k_is)
    (case i_Buffer_found => k_is)
    (case l_Buffer_found => k_is)
    (case c_Buffer_found => k_is)
    (case k_Buffer_found => k_is)
    (case a_Buffer_entered => k_is)
    (case i_Buffer_entered => k_is)
    (case l_Buffer_entered => k_is)
    (case c_Buffer_entered => k_is)
    (case k_Buffer_entered => k_is)
    (case a_Buffer_stored => k_is)
    (case i_Buffer_stored => k_is)
    (case l_Buffer_stored => k_is)
    (case c_Buffer_stored => k_is)
    (case k_Buffer_stored => k_is)
    (case a_Buffer_out => k_is)
    (case i_Buffer_out => k_is)
    (case l_Buffer_out => k_is)
    (case c_Buffer_out => k_is)
    (case k_Buffer_out => k_is)
    (case a_Buffer_cleared => k_is)
    (case i_Buffer_cleared => k_is)
    (case l_Buffer_cleared => k_is)
    (case c_Buffer_cleared => k_is)
    (case k_Buffer_cleared => k_is)
    (case a_Buffer_copy => k_is)
    (case i_Buffer_copy => k_is)
    (case l_Buffer_copy => k_is)
    (case c_Buffer_copy => k_is)
    (case k_Buffer_copy => k_is)
    (case a_Buffer_eq => k_is)
    (case i_Buffer_eq => k_is)
    (case l_Buffer_eq => k_is)
    (case c_Buffer_eq => k_is)
    (case k_Buffer_eq => k_is)
    (case a_Lpot => k_is)
    (case l_Lpot => k_is)
    (case c_Lpot => k_is)
    (case k_Lpot => k_is)
    (case a_Ldraw => k_is)
    (case l_Ldraw => k_is)
    (case c_Ldraw => k_is)
    (case k_Ldraw => k_is)
    (case a_Ldeed_right => k_is)
    (case l_Ldeed_right => k_is)
    (case c_Ldeed_right => k_is)
    (case k_Ldeed_right => k_is)
    (case a_Lright => k_is)
    (case l_Lright => k_is)
    (case c_Lright => k_is)
    (case k_Lright => k_is)
    (case a_law => k_is)
    (case l_law => k_is)
    (case c_law => k_is)
    (case k_law => k_is)
    (case z_abs => k_is)
    (case z_bool => k_is)
    (case z_divmod => k_is)
    (case z_int => k_is)
    (case z_isinstance => k_is)
    (case z_len => k_is)
    (case z_list => k_is)
    (case z_max => k_is)
    (case z_range => k_is)
    (case x_WORDS => k_is)
    (case x_PLACES => k_is)
    (case x_MEMORY_PLACES => k_is)
    (case x__PAGES => k_is)
    (case x__MOST_ENTRIES => k_is)
    (case ic_Buffer => k_is)
    (case in_Buffer => k_is)
    (case it_Buffer => k_is)
    (case im_Buffer => k_is)
    (case sl_Buffer => k_is)
    (case ik_Buffer => k_is)
    (case ty_Buffer => k_is)

