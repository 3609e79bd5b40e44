import PyProof.Rows.All
import Wide.All
import OpenK.AllK
import Wide.FinOn
import HandS.ForMost
import HandS.ForExc
import HandS.IsInst
import HandS.TupAny
import HandS.TupMul
import HandS.Style
import HandS.ExcInit
import HandS.TryMany
import HandS.ExcField
import HandS.CallLocal
import HandS.More
import HandS.Steps
import PyProof.MaxThree
import HandS.Rev
import HandS.Zip
import KE.GoesEnum
import HandS.Iter
import HandS.Comp
import PySem.Challenge.RW_hillrooms_k11_hills_of_runs
set_option Elab.async false
set_option linter.all false
set_option maxRecDepth 100000
set_option maxHeartbeats 4000000
/-! ### Kit -/
namespace Mine
open PySem PySem.Spec L2

/-! ## heaps -/
/-- what stood stands, but at a -/
def SB (a : Addr) (H H' : Hp) : Prop := ∀ b o, b ≠ a → H b = some o → H' b = some o
/-- what was a tuple is one -/
def Ext (K : PySem.W.Frag) (H H' : Hp) : Prop := ∀ a xs, SqT K H a xs → SqT K H' a xs
theorem SB.refl {a : Addr} {H : Hp} : SB a H H := fun _ _ _ h => h
theorem SB.trans {a : Addr} {H H1 H2 : Hp} (x : SB a H H1) (y : SB a H1 H2) : SB a H H2 := fun b o n h => y b o n (x b o n h)
theorem SB.of_same {a : Addr} {H H' : Hp} (s : Same H H') : SB a H H' := fun b o _ h => s b o h
theorem SB.upd {a : Addr} {H : Hp} {o : HO} : SB a H (upd H a o) := fun b u n h => by rw [upd_ne n]; exact h
theorem SB.new {a p : Addr} {H H' : Hp} {o : HO} (s : SB a H H') (hp : H' p = none) : SB a H (L2.upd H' p o) := fun b u n h => by
  have q := s b u n h
  rw [upd_ne (ne_of_none q hp)]; exact q
theorem SB.set {a : Addr} {H H' : Hp} {o : HO} (s : SB a H H') : SB a H (L2.upd H' a o) := fun b u n h => by
  rw [upd_ne n]; exact s b u n h
theorem Same.new {p : Addr} {H H' : Hp} {o : HO} (s : Same H H') (hp : H' p = none) : Same H (L2.upd H' p o) := fun b u h => by
  have q := s b u h
  rw [upd_ne (ne_of_none q hp)]; exact q
theorem same_new {H : Hp} {p : Addr} (h : H p = none) (o : HO) : Same H (upd H p o) := fun b u q => by rw [upd_ne (ne_of_none q h)]; exact q
theorem Ext.refl {K : PySem.W.Frag} {H : Hp} : Ext K H H := fun _ _ h => h
theorem Ext.trans {K : PySem.W.Frag} {H H1 H2 : Hp} (x : Ext K H H1) (y : Ext K H1 H2) : Ext K H H2 := fun a xs h => y a xs (x a xs h)
theorem Ext.of_same {K : PySem.W.Frag} {H H' : Hp} (s : Same H H') : Ext K H H' := fun a xs h => by
  rcases h with (h | ⟨o, h⟩) | h
  · exact .inl (.inl (s _ _ h))
  · exact .inl (.inr ⟨o, s _ _ h⟩)
  · exact .inr h
/-- an object that is no tuple is no known tuple -/
def noTup : HO → Prop
  | .tup _ => False
  | .frz _ _ => False
  | _ => True
theorem Ext.of_SB {K : PySem.W.Frag} {a : Addr} {H H' : Hp} {o : HO} (s : SB a H H') (h : H a = some o) (hn : noTup o) : Ext K H H' := fun b xs q => by
  rcases q with (q | ⟨u, q⟩) | q
  · have ne : b ≠ a := fun e => by subst e; rw [h] at q; cases q; exact hn
    exact .inl (.inl (s _ _ ne q))
  · have ne : b ≠ a := fun e => by subst e; rw [h] at q; cases q; exact hn
    exact .inl (.inr ⟨u, s _ _ ne q⟩)
  · exact .inr q
theorem Ext.set {K : PySem.W.Frag} {a : Addr} {H : Hp} {o u : HO} (h : H a = some o) (hn : noTup o) : Ext K H (upd H a u) := Ext.of_SB SB.upd h hn
theorem Ext.new {K : PySem.W.Frag} {p : Addr} {H : Hp} {o : HO} (h : H p = none) : Ext K H (upd H p o) := Ext.of_same (same_new h o)

/-! ## data without lists -/
mutual
inductive Rp (K : PySem.W.Frag) (H : Hp) : V → PyData → Prop
  | non : Rp K H .non .none
  | bl (b : Bool) : Rp K H (.bl b) (.bool b)
  | int (i : Int) : Rp K H (.int i) (.int i)
  | str (x : Str) : Rp K H (.str x) (.str x)
  | tup {a : Addr} {xs : List V} {ds : List PyData} : SqT K H a xs → Rps K H xs ds → Rp K H (.ref a) (.tuple ds)
inductive Rps (K : PySem.W.Frag) (H : Hp) : List V → List PyData → Prop
  | nil : Rps K H [] []
  | cons {v : V} {vs : List V} {d : PyData} {ds : List PyData} : Rp K H v d → Rps K H vs ds → Rps K H (v :: vs) (d :: ds)
end
mutual
theorem Rp.mono {K : PySem.W.Frag} {H H' : Hp} (e : Ext K H H') : ∀ (d : PyData) (v : V), Rp K H v d → Rp K H' v d
  | .none, _, h => by cases h; exact .non
  | .bool b, _, h => by cases h; exact .bl b
  | .int i, _, h => by cases h; exact .int i
  | .str x, _, h => by cases h; exact .str x
  | .tuple ds, _, h => by
    cases h with
    | tup hs hr => exact .tup (e _ _ hs) (Rps.mono e ds _ hr)
  | .list _, _, h => nomatch h
  | .dict _, _, h => nomatch h
theorem Rps.mono {K : PySem.W.Frag} {H H' : Hp} (e : Ext K H H') : ∀ (ds : List PyData) (vs : List V), Rps K H vs ds → Rps K H' vs ds
  | [], _, h => by cases h; exact .nil
  | d :: ds, _, h => by
    cases h with
    | cons h1 h2 => exact .cons (Rp.mono e d _ h1) (Rps.mono e ds _ h2)
end
mutual
theorem Rp.dp {K : PySem.W.Frag} {H : Hp} : ∀ (d : PyData) (v : V), Rp K H v d → Dp K H v d
  | .none, _, h => by cases h; exact .non
  | .bool b, _, h => by cases h; exact .bl b
  | .int i, _, h => by cases h; exact .int i
  | .str x, _, h => by cases h; exact .str x
  | .tuple ds, _, h => by
    cases h with
    | tup hs hr => exact .tup hs (Rps.dp ds _ hr)
  | .list _, _, h => nomatch h
  | .dict _, _, h => nomatch h
theorem Rps.dp {K : PySem.W.Frag} {H : Hp} : ∀ (ds : List PyData) (vs : List V), Rps K H vs ds → DpAll K H vs ds
  | [], _, h => by cases h; exact .nil
  | d :: ds, _, h => by
    cases h with
    | cons h1 h2 => exact .cons (Rp.dp d _ h1) (Rps.dp ds _ h2)
end
theorem Rps.length {K : PySem.W.Frag} {H : Hp} : ∀ {vs : List V} {ds : List PyData}, Rps K H vs ds → vs.length = ds.length
  | _, _, .nil => rfl
  | _, _, .cons _ t => by rw [List.length_cons, List.length_cons, Rps.length t]
theorem Rps.get {K : PySem.W.Frag} {H : Hp} : ∀ {vs : List V} {ds : List PyData} {i : Nat} {d : PyData}, Rps K H vs ds → ds[i]? = some d → ∃ v, vs[i]? = some v ∧ Rp K H v d
  | _, _, _, _, .nil, e => by simp at e
  | _, _, 0, d, .cons h _, e => by simp at e; subst e; exact ⟨_, rfl, h⟩
  | _, _, i + 1, d, .cons _ t, e => by
    obtain ⟨v, h1, h2⟩ := Rps.get (i := i) (d := d) t (by simpa using e)
    exact ⟨v, by simpa using h1, h2⟩
theorem Rps.getV {K : PySem.W.Frag} {H : Hp} : ∀ {vs : List V} {ds : List PyData} {i : Nat} {v : V}, Rps K H vs ds → vs[i]? = some v → ∃ d, ds[i]? = some d ∧ Rp K H v d
  | _, _, _, _, .nil, e => by simp at e
  | _, _, 0, d, .cons h _, e => by simp at e; subst e; exact ⟨_, rfl, h⟩
  | _, _, i + 1, v, .cons _ t, e => by
    obtain ⟨d, h1, h2⟩ := Rps.getV (i := i) (v := v) t (by simpa using e)
    exact ⟨d, by simpa using h1, h2⟩
theorem Rps.append {K : PySem.W.Frag} {H : Hp} : ∀ {vs ws : List V} {ds es : List PyData}, Rps K H vs ds → Rps K H ws es → Rps K H (vs ++ ws) (ds ++ es)
  | _, _, _, _, .nil, s => s
  | _, _, _, _, .cons r t, s => .cons r (Rps.append t s)
theorem Rps.one {K : PySem.W.Frag} {H : Hp} {v : V} {d : PyData} (h : Rp K H v d) : Rps K H [v] [d] := .cons h .nil
theorem Rps.reverse {K : PySem.W.Frag} {H : Hp} : ∀ {vs : List V} {ds : List PyData}, Rps K H vs ds → Rps K H vs.reverse ds.reverse
  | _, _, .nil => .nil
  | _, _, .cons r t => by
    rw [List.reverse_cons, List.reverse_cons]
    exact (Rps.reverse t).append (.one r)
theorem Rps.dropLast {K : PySem.W.Frag} {H : Hp} : ∀ {vs : List V} {ds : List PyData}, Rps K H vs ds → Rps K H vs.dropLast ds.dropLast
  | _, _, .nil => .nil
  | _, _, .cons r .nil => .nil
  | _, _, .cons r (.cons r2 t) => .cons r (Rps.dropLast (.cons r2 t))
theorem Rps.drop {K : PySem.W.Frag} {H : Hp} : ∀ (n : Nat) {vs : List V} {ds : List PyData}, Rps K H vs ds → Rps K H (vs.drop n) (ds.drop n)
  | 0, _, _, r => r
  | _ + 1, _, _, .nil => .nil
  | n + 1, _, _, .cons _ t => Rps.drop n t
theorem Rps.take {K : PySem.W.Frag} {H : Hp} : ∀ (n : Nat) {vs : List V} {ds : List PyData}, Rps K H vs ds → Rps K H (vs.take n) (ds.take n)
  | 0, _, _, _ => .nil
  | _ + 1, _, _, .nil => .nil
  | n + 1, _, _, .cons r t => .cons r (Rps.take n t)
theorem Rps.ints {K : PySem.W.Frag} {H : Hp} : ∀ (ns : List Int), Rps K H (ns.map V.int) (ns.map PyData.int)
  | [] => .nil
  | n :: r => .cons (.int n) (Rps.ints r)

/-! ## readings, one step each -/
section
variable {σ : St} {H : Hp} {Q : VK} {D : Ends} {ta tb tc te : TE} {t u : TS} {tt tt' : TT} {i : Nat} {K : PySem.W.Frag}
theorem rd_var {v : V} (e : σ[i]? = some (some v)) (h : Q v H) : tVar i σ H Q := ⟨v, e, h⟩
theorem rd_c {v : V} (h : Q v H) : tC v σ H Q := h
theorem rd_seq {n bk ct : St → Hp → Prop} {rt : VK} (h : t ⟨u ⟨n, rt, bk, ct⟩, rt, bk, ct⟩ σ H) : tSeq t u ⟨n, rt, bk, ct⟩ σ H := h
theorem rd_next {n bk ct : St → Hp → Prop} {rt : VK} (h : n σ H) : tNext ⟨n, rt, bk, ct⟩ σ H := h
theorem rd_brk {n bk ct : St → Hp → Prop} {rt : VK} (h : bk σ H) : tBreak ⟨n, rt, bk, ct⟩ σ H := h
theorem rd_ct {n bk ct : St → Hp → Prop} {rt : VK} (h : ct σ H) : tCont ⟨n, rt, bk, ct⟩ σ H := h
theorem rd_ret {n bk ct : St → Hp → Prop} {rt : VK} (h : te σ H rt) : tRet te ⟨n, rt, bk, ct⟩ σ H := h
theorem rd_retN {n bk ct : St → Hp → Prop} {rt : VK} (h : rt .non H) : tRetN ⟨n, rt, bk, ct⟩ σ H := h
theorem rd_asg {g : TG} {n bk ct : St → Hp → Prop} {rt : VK} (h : te σ H fun x H1 => g x σ H1 n) : tAsg te g ⟨n, rt, bk, ct⟩ σ H := h
theorem rd_drop {n bk ct : St → Hp → Prop} {rt : VK} (h : te σ H fun _ H1 => n σ H1) : tDrop te ⟨n, rt, bk, ct⟩ σ H := h
theorem rd_gname {v : V} {R : St → Hp → Prop} (h : R (σ.set i (some v)) H) : gName i v σ H R := h
theorem rd_par {i j : Nat} {ta : TA} {n bk ct : St → Hp → Prop} {rt : VK} (h : ta σ H fun vs H1 => ∃ v w, vs = [v, w] ∧ n ((σ.set i (some v)).set j (some w)) H1) : tPar i j ta ⟨n, rt, bk, ct⟩ σ H := h
theorem rd_par3 {i j l : Nat} {ta : TA} {n bk ct : St → Hp → Prop} {rt : VK} (h : ta σ H fun vs H1 => ∃ u v w, vs = [u, v, w] ∧ n (((σ.set i (some u)).set j (some v)).set l (some w)) H1) : tPar3 i j l ta ⟨n, rt, bk, ct⟩ σ H := h
theorem rd_par3_end {i j l : Nat} {u v w : V} {N : St → Hp → Prop} (h : N (((σ.set i (some u)).set j (some v)).set l (some w)) H) : ∃ u' v' w', [u, v, w] = [u', v', w'] ∧ N (((σ.set i (some u')).set j (some v')).set l (some w')) H := ⟨u, v, w, rfl, h⟩
theorem rd_split {p A B : Prop} [Decidable p] (h1 : p → A) (h2 : ¬ p → B) : if decide p = true then A else B := by
  by_cases c : p
  · rw [decide_eq_true c, if_pos rfl]; exact h1 c
  · rw [decide_eq_false c, if_neg Bool.false_ne_true]; exact h2 c
theorem rd_splitN {p A B : Prop} [Decidable p] (h1 : ¬ p → A) (h2 : p → B) : if (!decide p) = true then A else B := by
  by_cases c : p
  · rw [decide_eq_true c]; exact h2 c
  · rw [decide_eq_false c]; exact h1 c
theorem rd_splitB {b : Bool} {A B : Prop} (h1 : b = true → A) (h2 : b = false → B) : if b = true then A else B := by
  cases b with
  | true => exact h1 rfl
  | false => exact h2 rfl
theorem rd_aug {te : TE} {ti : TIp} {n bk ct : St → Hp → Prop} {rt : VK} {x : V} (e : σ[i]? = some (some x)) (h : te σ H fun y H1 => ti x y H1 fun z H2 => n (σ.set i (some z)) H2) : tAug i te ti ⟨n, rt, bk, ct⟩ σ H := ⟨x, e, h⟩
theorem rd_ipI {f : Int → Int → Int} {x y : Int} (h : Q (.int (f x y)) H) : ipI f (.int x) (.int y) H Q := ⟨x, y, rfl, rfl, h⟩
theorem rd_par_end {i j : Nat} {v w : V} {N : St → Hp → Prop} (h : N ((σ.set i (some v)).set j (some w)) H) : ∃ v' w', [v, w] = [v', w'] ∧ N ((σ.set i (some v')).set j (some w')) H := ⟨v, w, rfl, h⟩
theorem rd_if (h : tt σ H fun b H1 => if b = true then t D σ H1 else u D σ H1) : tIfS tt t u D σ H := h
theorem rd_ife (h : tt σ H fun b H1 => if b = true then ta σ H1 Q else tb σ H1 Q) : tIf tt ta tb σ H Q := h
theorem rd_op {r : R2} (h : ta σ H fun x H1 => tb σ H1 fun y H2 => r x y H2 Q) : tOp r ta tb σ H Q := h
theorem rd_un {r : V → Hp → VK → Prop} (h : ta σ H fun x H1 => r x H1 Q) : tUn r ta σ H Q := h
theorem rd_nil {R : List V → Hp → Prop} (h : R [] H) : tNil σ H R := h
theorem rd_cons {tr : TA} {R : List V → Hp → Prop} (h : ta σ H fun x H1 => tr σ H1 fun xs H2 => R (x :: xs) H2) : tCons ta tr σ H R := h
theorem rd_tup {a : TA} (h : a σ H fun xs H1 => xs.length ≤ sizeLine ∧ ∀ p, H1 p = none → Q (.ref p) (upd H1 p (.tup xs))) : tTup a σ H Q := h
theorem rd_lst {a : TA} (h : a σ H fun xs H1 => xs.length ≤ sizeLine ∧ ∀ p, H1 p = none → Q (.ref p) (upd H1 p (.lst xs))) : tLst a σ H Q := h
theorem rd_call {sp : Sp} {E : XK} {a : TA} (h : a σ H fun vs H1 => sp vs H1 Q E) : tCall sp [] E a σ H Q := by
  show a σ H fun vs H1 => sp (vs ++ []) H1 Q E
  have e : (fun vs H1 => sp (vs ++ []) H1 Q E) = fun vs H1 => sp vs H1 Q E := by
    funext vs H1; rw [List.append_nil]
  rw [e]; exact h
theorem rd_cb {r : List V → Hp → VK → Prop} {a : TA} (h : a σ H fun vs H1 => r vs H1 Q) : tCB r a σ H Q := h
theorem rd_test {R : Bool → Hp → Prop} (h : te σ H fun x H' => ∃ k, x = .bl k ∧ R k H') : tTest te σ H R := h
theorem rd_tB {R : Bool → Hp → Prop} (h : te σ H fun x H' => ∃ k, x = .bl k ∧ R k H') : tB te σ H R := h
theorem rd_bl {k : Bool} {R : Bool → Prop} (h : R k) : ∃ k', V.bl k = .bl k' ∧ R k' := ⟨k, rfl, h⟩
theorem rd_and {R : Bool → Hp → Prop} (h : tt σ H fun c H1 => if c = true then tt' σ H1 R else R false H1) : tAnd tt tt' σ H R := h
theorem rd_or {R : Bool → Hp → Prop} (h : tt σ H fun c H1 => if c = true then R true H1 else tt' σ H1 R) : tOr tt tt' σ H R := h
theorem rd_not {R : Bool → Hp → Prop} (h : tt σ H fun c H1 => R (!c) H1) : tNot tt σ H R := h
theorem rd_andV (h : ta σ H fun x H1 => ∃ c, x = .bl c ∧ if c = true then tb σ H1 Q else Q (.bl false) H1) : tAndV ta tb σ H Q := h
theorem rd_orV (h : ta σ H fun x H1 => ∃ c, x = .bl c ∧ if c = true then Q (.bl true) H1 else tb σ H1 Q) : tOrV ta tb σ H Q := h
theorem rd_notV (h : ta σ H fun x H1 => ∃ c, x = .bl c ∧ Q (.bl (!c)) H1) : tNotV ta σ H Q := h
theorem rd_chain {r r' : R2} (h : ta σ H fun x H1 => tb σ H1 fun y H2 => r x y H2 fun z H3 => ∃ k, z = .bl k ∧ if k = true then tc σ H3 fun w H4 => r' y w H4 Q else Q (.bl false) H3) : tChain r r' ta tb tc σ H Q := h
end
end Mine

/-! ### Kit2 -/
namespace Mine
open PySem PySem.Spec L2

/-! ## defs of the text, and their promises -/
def HasF (P : Program) (w : World) (K : PySem.W.Frag) (mg : Str → Option Value) (base : Heap) (CX : CXT) (k : Nat) (x : Str) (ps : List Str) (sp : Sp) : Prop :=
  ∃ (f : Addr) (fd : FuncData), FnOk P w K mg base CX k f fd ps sp ∧ mg x = some (.ref f) ∧ PySem.W.keepIn K (.ref f) = true ∧ Binds K fd ps []
def OwnF (K : PySem.W.Frag) (mg : Str → Option Value) (x : Str) (st : Stmt) : Prop := ∃ (f : Addr) (fd : FuncData), Fun K x x st f fd ∧ mg x = some (.ref f)
section
variable {P : Program} {w : World} {K : PySem.W.Frag} {mg : Str → Option Value} {base : Heap} {CX : CXT}
theorem HasF.mono {j k : Nat} {x : Str} {ps : List Str} {sp : Sp} (h : HasF P w K mg base CX j x ps sp) (l : j ≤ k) : HasF P w K mg base CX k x ps sp := by
  obtain ⟨f, fd, F, m, kp, b⟩ := h
  exact ⟨f, fd, F.mono l, m, kp, b⟩
theorem HasF.imp {k : Nat} {x : Str} {ps : List Str} {sp sp' : Sp} (h : HasF P w K mg base CX k x ps sp) (i : ∀ vs H Q E, sp' vs H Q E → sp vs H Q E) : HasF P w K mg base CX k x ps sp' := by
  obtain ⟨f, fd, F, m, kp, b⟩ := h
  exact ⟨f, fd, F.imp i, m, kp, b⟩
/-- a def that lets nothing out -/
theorem has0 {x : Str} {st : Stmt} {N ps : List Str} {k : Nat} {sp : Sp} (O : OwnF K mg x st) (S : FnScope N ps (defScope st))
    (hb : ∀ (kV doc pm : Value) (an : Option Addr) (cdv ct : Value) (us : List Value), us.length = ps.length → bindArgs (PySem.W.fnOf x x (defArgs st) (defBody st) (defScope st) .none kV doc pm an cdv ct) ⟨us, []⟩ = pure (ps.zip us))
    (len : ∀ vs H Q E, sp vs H Q E → vs.length = ps.length)
    (body : ∀ (f : Addr) (cdv : Value) (A : Around) (outer : List Env) (s : Shared) (H : Hp) (vs : List V) (Q : VK) (E : XK), Room k (A.deeper (PyProof.Rows.envOfC x (defScope st) s.heap.objs.size f cdv)) → sp vs H Q E →
      ∃ t, PSs (cxOf CX0 P w K mg base N x (defScope st) f cdv A outer s H E).nox (defBody st) t ∧ t { nx := fun _ H' => Q .non H', rt := Q } (start N vs) H) :
    HasF P w K mg base CX0 (k + 1) x ps sp := by
  obtain ⟨f, fd, F, m⟩ := O
  exact ⟨f, fd, F.ok S len (fun cdv A outer s H vs Q E hr h => body f cdv A outer s H vs Q E hr h), m, F.kp, F.binds hb⟩
/-- a def that may raise -/
theorem hasX {x : Str} {st : Stmt} {N ps : List Str} {k : Nat} {sp : Sp} (O : OwnF K mg x st) (S : FnScope N ps (defScope st))
    (hb : ∀ (kV doc pm : Value) (an : Option Addr) (cdv ct : Value) (us : List Value), us.length = ps.length → bindArgs (PySem.W.fnOf x x (defArgs st) (defBody st) (defScope st) .none kV doc pm an cdv ct) ⟨us, []⟩ = pure (ps.zip us))
    (len : ∀ vs H Q E, sp vs H Q E → vs.length = ps.length)
    (body : ∀ (f : Addr) (cdv : Value) (A : Around) (outer : List Env) (s : Shared) (H : Hp) (vs : List V) (Q : VK) (E : XK), Room k (A.deeper (PyProof.Rows.envOfC x (defScope st) s.heap.objs.size f cdv)) → sp vs H Q E →
      ∃ t, PSs (cxOf (L2.CX P w) P w K mg base N x (defScope st) f cdv A outer s H E) (defBody st) t ∧ t { nx := fun _ H' => Q .non H', rt := Q } (start N vs) H) :
    HasF P w K mg base (L2.CX P w) (k + 1) x ps sp := by
  obtain ⟨f, fd, F, m⟩ := O
  exact ⟨f, fd, F.okX S len (fun cdv A outer s H vs Q E hr h => body f cdv A outer s H vs Q E hr h), m, F.kp, F.binds hb⟩
end
section
variable {X : Cx} {CX : CXT} {k : Nat} {ps : List Str} {sp : Sp} {E : XK} {x : Str} {p pos : Pos} {e : Expr} {es : List Expr} {t : TA}
theorem pe_callH (h : HasF X.prog X.w X.K X.mg X.base CX k x ps sp) (hr : Room k X.A) (hg : Gl X x) (hx : Passes CX X E) (ha : PA X (e :: es) t)
    (hdb : (x == ("__debug__" : Str)) = false := by decide) (he : starEach (e :: es) X.env = (false, eval e X.env) :: starEach es X.env := by rfl) (hpl : (backTo pos (starEach es X.env)).any (·.1) = false := by rfl) :
    PE X (.Call (.Name x p) (e :: es) [] pos) (tCall sp [] E t) := by
  obtain ⟨f, fd, F, m, kp, b⟩ := h
  exact pe_call F hr hg m kp b .nil hx ha hdb he hpl
/-- within a try, or where a raise leaves -/
theorem pe_callHS {E : St → XK} (h : HasF X.prog X.w X.K X.mg X.base CX k x ps sp) (hr : Room k X.A) (hg : Gl X x) (hx : ∀ σ, PassesAt CX X σ (E σ)) (ha : PA X (e :: es) t)
    (hdb : (x == ("__debug__" : Str)) = false := by decide) (he : starEach (e :: es) X.env = (false, eval e X.env) :: starEach es X.env := by rfl) (hpl : (backTo pos (starEach es X.env)).any (·.1) = false := by rfl) :
    PE X (.Call (.Name x p) (e :: es) [] pos) (tCallS sp E t) := by
  obtain ⟨f, fd, F, m, kp, b⟩ := h
  exact pe_callS F hr hg m kp b hx ha hdb he hpl
theorem rd_callS {σ : St} {H : Hp} {Q : VK} {E : St → XK} (h : t σ H fun vs H1 => sp vs H1 Q (E σ)) : tCallS sp E t σ H Q := h
/-- the module's ints and texts -/
theorem pe_globI {i : Int} (h : ∃ t, X.mg x = some (.int i t)) (hg : Gl X x) (hd : (x == ("__debug__" : Str)) = false := by decide) : PE X (.Name x pos) (tC (.int i)) := by
  obtain ⟨t, h⟩ := h
  exact pe_glob hg h ⟨t, rfl⟩ hd
theorem pe_globS {z : Str} (h : ∃ t, X.mg x = some (.str z t)) (hg : Gl X x) (hd : (x == ("__debug__" : Str)) = false := by decide) : PE X (.Name x pos) (tC (.str z)) := by
  obtain ⟨t, h⟩ := h
  exact pe_glob hg h ⟨t, rfl⟩ hd
theorem pe_globR {a : Addr} (h : X.mg x = some (.ref a)) (hg : Gl X x) (hd : (x == ("__debug__" : Str)) = false := by decide) : PE X (.Name x pos) (tC (.ref a)) := pe_glob hg h rfl hd
end

/-! ## operators of any kind of operands -/
section
variable {X : Cx}
def rAddU (K : PySem.W.Frag) : R2 := fun x y H Q => (∃ i j, x = .int i ∧ y = .int j ∧ Q (.int (i + j)) H) ∨ (∃ i j, x = .str i ∧ y = .str j ∧ i.length + j.length ≤ sizeLine ∧ Q (.str (i ++ j)) H) ∨ rCat x y H Q ∨ rCatA K x y H Q
theorem addU : OpR X (binaryOp .Add) (rAddU X.K) := op_add.or (op_add_str.or (op_cat.or op_catA))
def rMulU (K : PySem.W.Frag) : R2 := fun x y H Q => (∃ i j, x = .int i ∧ y = .int j ∧ CMul i j ∧ Q (.int (i * j)) H) ∨ rRep x y H Q ∨ rRepT K x y H Q
theorem mulU : OpR X (binaryOp .Mult) (rMulU X.K) := op_mul.or (op_rep.or op_repT)
def rSubU : R2 := fun x y H Q => ∃ i j, x = .int i ∧ y = .int j ∧ Q (.int (i - j)) H
theorem subU : OpR X (binaryOp .Sub) rSubU := op_sub
def rModU : R2 := fun x y H Q => ∃ i j, x = .int i ∧ y = .int j ∧ 0 < j ∧ Q (.int (i % j)) H
theorem modU : OpR X (binaryOp .Mod) rModU := op_mod
def rDivU : R2 := fun x y H Q => ∃ i j, x = .int i ∧ y = .int j ∧ CDiv i j ∧ Q (.int (i / j)) H
theorem divU : OpR X (binaryOp .FloorDiv) rDivU := op_fdiv
def rPowU : R2 := fun x y H Q => ∃ i j, x = .int i ∧ y = .int j ∧ CPow i j ∧ Q (.int (i ^ j.toNat)) H
theorem powU : OpR X (binaryOp .Pow) rPowU := op_pow
def rLtU : R2 := fun x y H Q => ∃ i j, x = .int i ∧ y = .int j ∧ Q (.bl (decide (i < j))) H
theorem ltU : OpR X (compareOp .Lt) rLtU := op_lt
def rLeU : R2 := fun x y H Q => ∃ i j, x = .int i ∧ y = .int j ∧ Q (.bl (decide (i ≤ j))) H
theorem leU : OpR X (compareOp .LtE) rLeU := op_le
def rGtU : R2 := fun x y H Q => ∃ i j, x = .int i ∧ y = .int j ∧ Q (.bl (decide (j < i))) H
theorem gtU : OpR X (compareOp .Gt) rGtU := op_gt
def rGeU : R2 := fun x y H Q => ∃ i j, x = .int i ∧ y = .int j ∧ Q (.bl (decide (j ≤ i))) H
theorem geU : OpR X (compareOp .GtE) rGeU := op_ge
def rEqU (K : PySem.W.Frag) : R2 := fun x y H Q => (scal x y = true ∧ Q (.bl (decide (x = y))) H) ∨ rEqD K x y H Q
theorem eqU (hu : X.A.units + 64 < cLine) : OpR X (compareOp .Eq) (rEqU X.K) := op_eq.or (op_eqD hu)
def rNeU (K : PySem.W.Frag) : R2 := fun x y H Q => (scal x y = true ∧ Q (.bl (!decide (x = y))) H) ∨ rNeD K x y H Q
theorem neU (hu : X.A.units + 64 < cLine) : OpR X (compareOp .NotEq) (rNeU X.K) := op_ne.or (op_neD hu)
def rInU (K : PySem.W.Frag) : R2 := fun x y H Q => rIn K false x y H Q ∨ rInS x y H Q
theorem op_inS' : OpR X (compareOp .In) rInS := op_in_sign
theorem op_notInS' : OpR X (compareOp .NotIn) rNotInS := op_notIn_sign
theorem inU : OpR X (compareOp .In) (rInU X.K) := op_in_seq.or op_inS'
def rNotInU (K : PySem.W.Frag) : R2 := fun x y H Q => rIn K true x y H Q ∨ rNotInS x y H Q
theorem notInU : OpR X (compareOp .NotIn) (rNotInU X.K) := op_notIn_seq.or op_notInS'
def rSlU (K : PySem.W.Frag) : V → Option Int → Option Int → Hp → VK → Prop := fun x lo hi H Q => rSlL K x lo hi H Q ∨ rSlA K x lo hi H Q
theorem slU : SlR X (rSlU X.K) := sl_list.or sl_tupA
def rLenU (K : PySem.W.Frag) : List V → Hp → VK → Prop := fun xs H Q => (∃ p ys, xs = [.ref p] ∧ (SqL K H p ys ∨ SqT K H p ys) ∧ Q (.int ys.length) H) ∨ (∃ z : Str, xs = [.str z] ∧ z.length ≤ sizeLine ∧ Q (.int z.length) H)
theorem lenU : CallR X (.builtin "len") (rLenU X.K) := call_len_seq.or call_len_str
def rIntU : List V → Hp → VK → Prop := fun xs H Q => (∃ i, xs = [.int i] ∧ Q (.int i) H) ∨ ∃ k, xs = [.bl k] ∧ Q (.int (if k then 1 else 0)) H
theorem intU : CallR X (.type "int") rIntU := call_int1
def rMax2 : List V → Hp → VK → Prop := fun xs H Q => ∃ i j, xs = [.int i, .int j] ∧ Q (.int (if j > i then j else i)) H
theorem max2U (hc : X.calm = true) : CallR X (.builtin "max") rMax2 := call_max2 hc
def rMin2 : List V → Hp → VK → Prop := fun xs H Q => ∃ i j, xs = [.int i, .int j] ∧ Q (.int (if j < i then j else i)) H
theorem min2U (hc : X.calm = true) : CallR X (.builtin "min") rMin2 := call_min2 hc
def rTupU (K : PySem.W.Frag) : List V → Hp → VK → Prop := fun xs H Q => ∃ p ys, xs = [.ref p] ∧ ((SqL K H p ys ∧ ∀ l, H l = none → Q (.ref l) (upd H l (.tup ys))) ∨ (SqT K H p ys ∧ Q (.ref p) H))
theorem tupU : CallR X (.type "tuple") (rTupU X.K) := call_tuple_of
end
section
variable {K : PySem.W.Frag} {H : Hp} {Q : VK} {i j : Int} {a b p : Addr} {xs ys : List V} {z z' : Str}
theorem u_add (h : Q (.int (i + j)) H) : rAddU K (.int i) (.int j) H Q := .inl ⟨i, j, rfl, rfl, h⟩
theorem u_addS (l : z.length + z'.length ≤ sizeLine) (h : Q (.str (z ++ z')) H) : rAddU K (.str z) (.str z') H Q := .inr (.inl ⟨z, z', rfl, rfl, l, h⟩)
theorem u_addL (ha : H a = some (.lst xs)) (hb : H b = some (.lst ys)) (l : xs.length + ys.length ≤ sizeLine) (h : ∀ p, H p = none → Q (.ref p) (upd H p (.lst (xs ++ ys)))) : rAddU K (.ref a) (.ref b) H Q :=
  .inr (.inr (.inl ⟨a, b, xs, ys, rfl, rfl, ha, hb, l, h⟩))
theorem u_mul (c : CMul i j) (h : Q (.int (i * j)) H) : rMulU K (.int i) (.int j) H Q := .inl ⟨i, j, rfl, rfl, c, h⟩
theorem u_sub (h : Q (.int (i - j)) H) : rSubU (.int i) (.int j) H Q := ⟨i, j, rfl, rfl, h⟩
theorem u_mod (c : 0 < j) (h : Q (.int (i % j)) H) : rModU (.int i) (.int j) H Q := ⟨i, j, rfl, rfl, c, h⟩
theorem u_div (c : 0 < j ∧ j < 1073741824) (h : Q (.int (i / j)) H) : rDivU (.int i) (.int j) H Q := ⟨i, j, rfl, rfl, c, h⟩
theorem u_pow (c : CPow i j) (h : Q (.int (i ^ j.toNat)) H) : rPowU (.int i) (.int j) H Q := ⟨i, j, rfl, rfl, c, h⟩
theorem u_lt (h : Q (.bl (decide (i < j))) H) : rLtU (.int i) (.int j) H Q := ⟨i, j, rfl, rfl, h⟩
theorem u_le (h : Q (.bl (decide (i ≤ j))) H) : rLeU (.int i) (.int j) H Q := ⟨i, j, rfl, rfl, h⟩
theorem u_gt (h : Q (.bl (decide (j < i))) H) : rGtU (.int i) (.int j) H Q := ⟨i, j, rfl, rfl, h⟩
theorem u_ge (h : Q (.bl (decide (j ≤ i))) H) : rGeU (.int i) (.int j) H Q := ⟨i, j, rfl, rfl, h⟩
theorem u_eqI (h : Q (.bl (decide (i = j))) H) : rEqU K (.int i) (.int j) H Q := .inl ⟨rfl, by
  have e : decide (V.int i = V.int j) = decide (i = j) := by
    by_cases c : i = j
    · rw [decide_eq_true c, decide_eq_true (congrArg V.int c)]
    · rw [decide_eq_false c, decide_eq_false (fun q => c (V.int.inj q))]
  rw [e]; exact h⟩
theorem u_eqS (h : Q (.bl (decide (z = z'))) H) : rEqU K (.str z) (.str z') H Q := .inl ⟨rfl, by
  have e : decide (V.str z = V.str z') = decide (z = z') := by
    by_cases c : z = z'
    · rw [decide_eq_true c, decide_eq_true (congrArg V.str c)]
    · rw [decide_eq_false c, decide_eq_false (fun q => c (V.str.inj q))]
  rw [e]; exact h⟩
theorem u_neI (h : Q (.bl (!decide (i = j))) H) : rNeU K (.int i) (.int j) H Q := .inl ⟨rfl, by
  have e : decide (V.int i = V.int j) = decide (i = j) := by
    by_cases c : i = j
    · rw [decide_eq_true c, decide_eq_true (congrArg V.int c)]
    · rw [decide_eq_false c, decide_eq_false (fun q => c (V.int.inj q))]
  rw [e]; exact h⟩
theorem u_neB {x y : Bool} (h : Q (.bl (!decide (x = y))) H) : rNeU K (.bl x) (.bl y) H Q := .inl ⟨rfl, by
  have e : decide (V.bl x = V.bl y) = decide (x = y) := by cases x <;> cases y <;> rfl
  rw [e]; exact h⟩
theorem u_ixL {v : V} (s : SqL K H p xs) (e : atI xs i = some v) (h : Q v H) : rIx K (.ref p) (.int i) H Q := .inl ⟨p, xs, i, v, rfl, rfl, s, e, h⟩
theorem u_ixT {v : V} (s : SqT K H p xs) (e : atI xs i = some v) (h : Q v H) : rIx K (.ref p) (.int i) H Q := .inr (.inl ⟨p, xs, i, v, rfl, rfl, s, e, h⟩)
theorem u_ixS {c : Nat} (l : z.length ≤ sizeLine) (e : atI z.cps.toList i = some c) (h : Q (.str ⟨#[c]⟩) H) : rIx K (.str z) (.int i) H Q := .inr (.inr ⟨z, i, c, rfl, rfl, l, e, h⟩)
theorem u_lenL (s : SqL K H p xs) (h : Q (.int xs.length) H) : rLenU K [.ref p] H Q := .inl ⟨p, xs, rfl, .inl s, h⟩
theorem u_lenT (s : SqT K H p xs) (h : Q (.int xs.length) H) : rLenU K [.ref p] H Q := .inl ⟨p, xs, rfl, .inr s, h⟩
theorem u_lenS (l : z.length ≤ sizeLine) (h : Q (.int z.length) H) : rLenU K [.str z] H Q := .inr ⟨z, rfl, l, h⟩
theorem u_int (h : Q (.int i) H) : rIntU [.int i] H Q := .inl ⟨i, rfl, h⟩
theorem u_intB {c : Bool} (h : Q (.int (if c then 1 else 0)) H) : rIntU [.bl c] H Q := .inr ⟨c, rfl, h⟩
theorem u_max (h : Q (.int (if j > i then j else i)) H) : rMax2 [.int i, .int j] H Q := ⟨i, j, rfl, h⟩
theorem u_min (h : Q (.int (if j < i then j else i)) H) : rMin2 [.int i, .int j] H Q := ⟨i, j, rfl, h⟩
theorem u_tupL (s : SqL K H p xs) (h : ∀ l, H l = none → Q (.ref l) (upd H l (.tup xs))) : rTupU K [.ref p] H Q := ⟨p, xs, rfl, .inl ⟨s, h⟩⟩
theorem u_setL {v : V} {n : Nat} {R : Hp → Prop} (h : H p = some (.lst xs)) (e : ixN xs.length i = some n) (q : R (upd H p (.lst (xs.set n v)))) : rSetL (.ref p) (.int i) v H R := ⟨p, xs, i, n, rfl, rfl, h, e, q⟩
theorem u_neg (h : Q (.int (-i)) H) : rU (fun i => .int (-i)) (.int i) H Q := ⟨i, rfl, h⟩
theorem rd_gsub {σ : St} {to ti : TE} {t : TSet} {v : V} {R : St → Hp → Prop} (h : to σ H fun o H1 => ti σ H1 fun i H2 => t o i v H2 fun H3 => R σ H3) : gSub to ti t v σ H R := h
end
end Mine

/-! ### Kit3 -/
namespace HT
open PySem PySem.Spec PyProof.Rows
theorem adjust_rev (n : Nat) : Builtin.Slice.sliceAdjust none none (-1) (n : Int) = ((n : Int) - 1, -1) := by
  unfold Builtin.Slice.sliceAdjust
  simp
theorem places_rev (n : Nat) : Builtin.Slice.slicePlaces ((n : Int) - 1) (-1) (-1) = n := by
  unfold Builtin.Slice.slicePlaces
  have h1 : ¬ ((-1 : Int) > 0) := by omega
  simp only [h1, if_false]
  by_cases h : (n : Int) - 1 > -1
  · rw [if_pos h]
    have e : (-(-1 : Int)) = 1 := by omega
    rw [e, Int.ediv_one]
    omega
  · rw [if_neg h]; omega
theorem pick_rev (xs : Array Value) : ((List.range xs.size).filterMap fun (m : Nat) => xs[((xs.size : Int) - 1 + (m : Int) * (-1)).toNat]?).toArray = xs.toList.reverse.toArray := by
  congr 1
  have e : ∀ l : List Nat, (∀ m ∈ l, m < xs.size) → l.filterMap (fun (m : Nat) => xs[((xs.size : Int) - 1 + (m : Int) * (-1)).toNat]?) = l.map (fun m => xs.getD (xs.size - 1 - m) .none) := by
    intro l
    induction l with
    | nil => intro _; rfl
    | cons m r ih =>
      intro h
      have hm' : m < xs.size := h m List.mem_cons_self
      have e1 : ((xs.size : Int) - 1 + (m : Int) * (-1)).toNat = xs.size - 1 - m := by omega
      have h2 : xs.size - 1 - m < xs.size := by omega
      have e2 : xs[((xs.size : Int) - 1 + (m : Int) * (-1)).toNat]? = some (xs.getD (xs.size - 1 - m) .none) := by
        rw [e1]
        simp [Array.getD, h2]
      rw [List.filterMap_cons, e2, List.map_cons, ih fun q hq => h q (List.mem_cons_of_mem _ hq)]
  rw [e _ fun m hm => List.mem_range.mp hm]
  apply List.ext_getElem?
  intro i
  rw [List.getElem?_map]
  by_cases hi : i < xs.size
  · rw [List.getElem?_range hi]
    rw [List.getElem?_reverse (by simpa using hi)]
    have h2 : xs.size - 1 - i < xs.size := by omega
    simp [Array.getD, h2]
  · have h1 : (List.range xs.size)[i]? = none := by simp; omega
    have h2 : xs.toList.reverse[i]? = none := by simp; omega
    rw [h1, h2]; rfl
theorem extend_tupW (l : Addr) (items : Array Value) (n : Nat) (b : Addr) (items2 : Array Value) (n2 : Nat) (dd : Option Addr) (sl : Array (Option Value)) (hs0 : ¬(!items.isEmpty && Builtin.List.listTooLong (items.size + items2.size)) = true) (hs1 : items.size ≤ sizeLine) (hs2 : items.size + items2.size ≤ sizeLine + 1) :
    Meets (Builtin.«list.extend» ⟨[.ref l, .ref b], []⟩) (fun _ R s => s.heap.get? l = some { cls := .type "list", dict := none, data := .seq items n, slots := #[] } ∧ s.heap.get? b = some { cls := .type "tuple", dict := dd, data := .seq items2 n2, slots := sl } ∧ R (.ok (.ret Value.none)) { s with heap := s.heap.update l (Obj.mapSeq fun x => x ++ items2), toks := s.toks }) :=
  .of_wp fun prog w A R s h => by
    obtain ⟨hp, g, d, tk, os⟩ := s; obtain ⟨hl, hb, h⟩ := h; have f1 := AutoSeq1.idx_int; have f2 := AutoSeq1.sub_tuple_tuple; have f3 := AutoSeq1.sub_list_list; have f4 := AutoSeq1.sub_tuple_list; have f5 := AutoSeq1.sub_list_tuple;
    have hz' : (items ++ items2).size ≤ sizeLine + 1 := by rw [Array.size_append]; exact hs2
    wp_walk using (wpAny_updateSeq hl rfl (hz := hs1) (_hz' := hz')), AutoSeq1.wpAny_loadPart' hl, AutoSeq1.wpAny_loadPart' hb; exact ⟨_, rfl, h⟩
variable {prog : Program} {w : World} {A : Around} {E : Value → Shared → Prop} {s : Shared}
theorem sliceApplied_rev {sl : Addr} {vl vu vs : Value} {n : Nat} {Q : Int × Int × Nat → Shared → Prop} (hs : s.heap.IsSliceOf sl vl vu vs) (pl : IsPart vl none) (pu : IsPart vu none) (ps : IsPart vs (some (-1)))
    (h : Q ((n : Int) - 1, -1, n) s) : wpAny (model prog w) A (Builtin.Slice.sliceApplied (.ref sl) (pure (n : Int))) Q E s := by
  obtain ⟨os, hos, hcs, hds⟩ := id hs
  unfold Builtin.Slice.sliceApplied Builtin.Slice.sliceFields
  refine wpAny_bind (wpAny_bind (wpAny_field hos hds (x := vl) rfl (wpAny_bind (wpAny_field hos hds (x := vu) rfl (wpAny_bind (wpAny_field hos hds (x := vs) rfl (wpAny_pure ?_)))))))
  refine wpAny_bind (slicePart_ ps ?_)
  show wpAny _ _ (if ((-1 : Int) == 0) = true then _ else _) _ _ s
  rw [if_neg (by decide)]
  refine wpAny_bind (slicePart_ pl (wpAny_bind (slicePart_ pu (wpAny_bind (wpAny_pure ?_)))))
  show wpAny _ _ (match Builtin.Slice.sliceAdjust none none (-1) (n : Int) with | (lo, hi) => pure (lo, (-1 : Int), Builtin.Slice.slicePlaces lo hi (-1))) _ _ s
  rw [adjust_rev n]
  show wpAny _ _ (pure ((n : Int) - 1, (-1 : Int), Builtin.Slice.slicePlaces ((n : Int) - 1) (-1) (-1))) _ _ s
  rw [places_rev]
  exact wpAny_pure h
theorem getItem_tuple_rev {t sl : Addr} {items : Array Value} {vl vu vs : Value} {Q : Value → Shared → Prop} (ht : IsTup s.heap t items) (hs : s.heap.IsSliceOf sl vl vu vs) (pl : IsPart vl none) (pu : IsPart vu none) (ps : IsPart vs (some (-1)))
    (h : Q (.ref s.heap.objs.size) { s with heap := s.heap.push { cls := .type "tuple", data := .seq items.toList.reverse.toArray } })
    (hsz : items.size ≤ sizeLine) : wpAny (model prog w) A (getItem (.ref t) (.ref sl)) Q E s := by
  have htake : sizeOk (.seq items.toList.reverse.toArray) := by
    show items.toList.reverse.toArray.size ≤ sizeLine
    rw [List.size_toArray, List.length_reverse, Array.length_toList]
    omega
  obtain ⟨os, hos, hcs, hds⟩ := id hs
  have hTs : s.TypeIs (.ref sl) "slice" := ⟨os, hos, hcs⟩
  unfold getItem
  try with_reducible refine wpAny_holding ?_
  first | refine wpAny_bind (wpAny_pure ?_) | skip
  refine wpAny_bind (wpAny_sequenceKey ht.typeIs (by decide) ?_)
  refine wpAny_bind (wpAny_callSpecial?_slot (name := Str.ofString "__getitem__") ht.typeIs PyProof.Rows.slot_tuple_getitem
    (wpAny_call_entry PyProof.Rows.slot_tuple_getitem ht.typeIs entry_tuple_getitem ?_ (args_tuple_getitem _ _)))
  show wpAny _ _ (Builtin.Tuple.tupleItemsOf (.ref t) >>= _) _ _ s
  refine wpAny_bind (tupleItemsOf_ ht ?_)
  refine wpAny_bind (wpAny_typeOf hTs ?_)
  rw [if_pos (by decide)]
  refine wpAny_bind (sliceApplied_rev (n := items.size) hs pl pu ps ?_)
  have hno : ¬ ((((items.size : Int) - 1) == 0 && (-1 : Int) == 1 && items.size == items.size) = true) := by
    intro q
    rw [Bool.and_eq_true, Bool.and_eq_true] at q
    exact absurd (eq_of_beq q.1.2) (by decide)
  show wpAny _ _ (if (((items.size : Int) - 1) == 0 && (-1 : Int) == 1 && items.size == items.size) = true then _ else _) _ _ s
  rw [if_neg hno, pick_rev]
  first
    | exact wpAny_bind (m := Builtin.Tuple.tupleExact _) (wpAny_newObj_type (wpAny_pure ⟨_, rfl, wpAny_pure h⟩) htake)
    | exact wpAny_bind (m := Builtin.Tuple.tupleExact _) (wpAny_newObj_type (wpAny_bind (wpAny_pure (wpAny_pure ⟨_, rfl, wpAny_pure h⟩))) htake)
    | exact wpAny_bind (wpAny_bind (m := Builtin.Tuple.tupleExact _) (wpAny_newObj_type (wpAny_pure (wpAny_pure ⟨_, rfl, wpAny_pure h⟩)) htake))
    | exact wpAny_bind (wpAny_bind (m := Builtin.Tuple.tupleExact _) (wpAny_newObj_type (wpAny_pure ⟨_, rfl, wpAny_pure h⟩) htake))
end HT
namespace Mine
open PySem PySem.Spec PyProof.Rows L2
section
variable {X : Cx}
/-- e[::-1], a list or a tuple -/
def tRevU (K : PySem.W.Frag) (te : TE) : TE := fun σ H Q => te σ H fun x H1 => ∃ a xs, x = .ref a ∧ ((SqL K H1 a xs ∧ ∀ p, H1 p = none → Q (.ref p) (upd H1 p (.lst xs.reverse))) ∨ (SqT K H1 a xs ∧ ∀ p, H1 p = none → Q (.ref p) (upd H1 p (.tup xs.reverse))))
theorem pe_revU {e : Expr} {te : TE} {k : Nat} {p1 p2 p3 pos : Pos} (he : PE X e te) : PE X (.Subscript e (.Slice none none (some (.UnaryOp .USub (.Constant (.int 1) k p1) p2)) p3) pos) (tRevU X.K te) := by
  refine ⟨fun pins s σ H Q I h => ?_⟩
  refine Subscript_ (thn (he.run pins s σ H _ I h) fun v s1 ⟨x, H1, I1, r1, q1⟩ => ?_)
  obtain ⟨a, xs, ex, q⟩ := q1
  subst ex
  cases r1
  have hst : PO X (some (.UnaryOp .USub (.Constant (.int 1) k p1) p2)) (tPart (tUn (rU fun i => .int (-i)) (tC (.int 1)))) := po_some (pe_un un_neg pe_int)
  refine wpAny_Slice (thn (po_none.run pins s1 σ H1 (fun o H2 => o = none ∧ H2 = H1) I1 ⟨rfl, rfl⟩) fun vl s2 ⟨l, H2, I2, pl, el, e2⟩ => ?_)
  subst el e2
  refine thn (po_none.run pins s2 σ H2 (fun o H3 => o = none ∧ H3 = H2) I2 ⟨rfl, rfl⟩) fun vu s3 ⟨u, H3, I3, pu, eu, e3⟩ => ?_
  subst eu e3
  refine thn (hst.run pins s3 σ H3 (fun o H4 => o = some (-1) ∧ H4 = H3) I3 ⟨1, rfl, -1, rfl, rfl, rfl⟩) fun vs s4 ⟨o, H4, I4, ps, eo, e4⟩ => ?_
  subst eo e4
  have I5 : Inv X pins σ H4 { s4 with heap := s4.heap.push { cls := .type "slice", data := .fields #[vl, vu, vs] } } := I4.kept (t' := s4.toks) fun b ob q => Heap.get?_push_of_some _ q
  show wpAny (model X.prog X.w) X.A (subscriptTail e (.Slice none none (some (.UnaryOp .USub (.Constant (.int 1) k p1) p2)) p3) (.ref a) (.ref s4.heap.objs.size)) (EP X pins σ Q) X.xe { s4 with heap := s4.heap.push { cls := .type "slice", data := .fields #[vl, vu, vs] } }
  rcases q with ⟨hx, q⟩ | ⟨hx, q⟩
  · obtain ⟨its, r, ht, hz⟩ := I5.list hx
    have hlen := r.length
    refine tail_any (ops := [.ref a, .ref s4.heap.objs.size]) ht.isList.typeIs (PySem.slot_list_getitem.lookup) ?_ (by with_unfolding_all rfl)
    refine wpAny_getItem_list_slice ht.isList (Heap.IsSliceOf.new _ vl vu vs) pl pu ps (by decide) ?_ (by rw [List.size_toArray]; omega)
    rw [PySem.W.krv_pick]
    refine ⟨.ref _, _, I5.laid (t' := s4.toks) (o := .lst xs.reverse) (fun b ob q => Heap.get?_push_of_some _ q) (Nat.le_refl _) ?_, rfl, q _ (I5.hok.fresh (Nat.le_refl _))⟩
    exact ⟨by rw [List.length_reverse]; exact hz, _, 0, r.reverse, Heap.get?_push_size _ rfl⟩
  · obtain ⟨its, r, ht, hz⟩ := I5.tuple hx
    have hlen := r.length
    refine tail_any (ops := [.ref a, .ref s4.heap.objs.size]) ht.typeIs (PyProof.Rows.slot_tuple_getitem.lookup) ?_ (by with_unfolding_all rfl)
    refine HT.getItem_tuple_rev ht (Heap.IsSliceOf.new _ vl vu vs) pl pu ps ?_ (by rw [List.size_toArray]; omega)
    refine ⟨.ref _, _, I5.laid (t' := s4.toks) (o := .tup xs.reverse) (fun b ob q => Heap.get?_push_of_some _ q) (Nat.le_refl _) ?_, rfl, q _ (I5.hok.fresh (Nat.le_refl _))⟩
    refine ⟨by rw [List.length_reverse]; exact hz, its.reverse, r.reverse, _, Heap.get?_push_size _ rfl, rfl, 0, rfl⟩
/-- xs.extend(e), e a list or a tuple -/
def rExtT (K : PySem.W.Frag) : V → List V → Hp → VK → Prop := fun x vs H Q => ∃ l b xs zs, x = .ref l ∧ vs = [.ref b] ∧ H l = some (.lst xs) ∧ SqT K H b zs ∧ xs.length + zs.length ≤ sizeLine ∧ Q .non (upd H l (.lst (xs ++ zs)))
theorem mt_extT : MtM X "list.extend" (rExtT X.K) := by
  intro pins s σ H x vs v us Q I rx rv h
  obtain ⟨l, b, xs, zs, rfl, rfl, hH, hB, hz, q⟩ := h
  cases rx
  obtain ⟨u, rfl, ru⟩ := rv.one
  cases ru
  obtain ⟨z, its, n, r, hl, e⟩ := I.lstM hH
  obtain ⟨its2, r2, ⟨⟨cls, dd, data, sl⟩, ho, hc, n2, hd⟩, hs⟩ := I.tuple hB
  simp only at hc hd
  subst hc hd
  have hl2 := r2.length
  have hsz : its.toArray.size + its2.toArray.size ≤ sizeLine := by rw [List.size_toArray, List.size_toArray]; omega
  have hlong : ¬ (!its.toArray.isEmpty && Builtin.List.listTooLong (its.toArray.size + its2.toArray.size)) = true := by
    rw [notLongL hsz, Bool.and_false]
    exact Bool.false_ne_true
  refine call_meets F.slot_list_extend ⟨_, e, rfl⟩ F.entry_list_extend (F.args_list_extend_2 _ _)
    (HT.extend_tupW l its.toArray n b its2.toArray n2 dd sl hlong (by rw [List.size_toArray]; omega) (by omega)) ⟨e, ho, ?_⟩
  refine ⟨.non, _, I.lset (its' := its ++ its2) hH e (by simp) (r.append r2) ?_, rfl, q⟩
  rw [List.length_append]
  omega
def rExtU (K : PySem.W.Frag) : V → List V → Hp → VK → Prop := fun x vs H Q => rExtend x vs H Q ∨ rExtT K x vs H Q
theorem mt_extU : MtR X "list.extend" (rExtU X.K) := MtR.or mt_extend mt_extT
end
end Mine

/-! ### Kit4 -/
namespace Mine
open PySem PySem.Spec L2
section
variable {X : Cx} (K : PySem.W.Frag)
theorem kAdd (h : X.K = K := by rfl) : OpR X (binaryOp .Add) (rAddU K) := by subst h; exact addU
theorem kMul (h : X.K = K := by rfl) : OpR X (binaryOp .Mult) (rMulU K) := by subst h; exact mulU
theorem kEq (hu : X.A.units + 64 < cLine) (h : X.K = K := by rfl) : OpR X (compareOp .Eq) (rEqU K) := by subst h; exact eqU hu
theorem kNe (hu : X.A.units + 64 < cLine) (h : X.K = K := by rfl) : OpR X (compareOp .NotEq) (rNeU K) := by subst h; exact neU hu
theorem kIn (h : X.K = K := by rfl) : OpR X (compareOp .In) (rInU K) := by subst h; exact inU
theorem kNotIn (h : X.K = K := by rfl) : OpR X (compareOp .NotIn) (rNotInU K) := by subst h; exact notInU
theorem kSl (h : X.K = K := by rfl) : SlR X (rSlU K) := by subst h; exact slU
theorem kLen (h : X.K = K := by rfl) : CallR X (.builtin "len") (rLenU K) := by subst h; exact lenU
theorem kTup (h : X.K = K := by rfl) : CallR X (.type "tuple") (rTupU K) := by subst h; exact tupU
theorem kIx (h : X.K = K := by rfl) : IxR X (rIx K) := by subst h; exact ix_seq
theorem kIsi (h : X.K = K := by rfl) : CallR X (.builtin "isinstance") (rIsi K) := by subst h; exact call_isi
theorem kExt (h : X.K = K := by rfl) : MtR X "list.extend" (rExtU K) := by subst h; exact mt_extU
theorem kSum (hc : X.calm = true) (h : X.K = K := by rfl) : CallR X (.builtin "sum") (rSum K) := by subst h; exact cr_sum hc
def rListU (K : PySem.W.Frag) : List V → Hp → VK → Prop := fun xs H Q => ∃ p ys, xs = [.ref p] ∧ (SqL K H p ys ∨ SqT K H p ys) ∧ ∀ l, H l = none → Q (.ref l) (upd H l (.lst ys))
theorem kList (h : X.K = K := by rfl) : CallR X (.type "list") (rListU K) := by subst h; exact call_list_of
variable {e o : Expr} {es : List Expr} {te to : TE} {ta t : TA} {tg : Expr}
theorem pe_revK {k : Nat} {p1 p2 p3 pos : Pos} (he : PE X e te) (h : X.K = K := by rfl) : PE X (.Subscript e (.Slice none none (some (.UnaryOp .USub (.Constant (.int 1) k p1) p2)) p3) pos) (tRevU K te) := by subst h; exact pe_revU he
theorem pi_listK (he : PE X e te) (h : X.K = K := by rfl) : PI X tg e (iList K te) := by subst h; exact pi_list he
theorem pi_tupK (he : PE X e te) (h : X.K = K := by rfl) : PI X tg e (iTup K te) := by subst h; exact pi_tup he
theorem pi_enumK {p pos tpos : Pos} {elts : List Expr} {kk : Nat} (hg : Gl X "enumerate") (hm : X.mg "enumerate" = none) (ha : PA X [e] ta) (h : X.K = K := by rfl) (hs : starEach [e] X.env = [(false, eval e X.env)] := by rfl) :
    PI X (.Tuple elts kk tpos) (.Call (.Name "enumerate" p) [e] [] pos) (iEnum K ta) := by subst h; exact pi_enum hg hm ha hs
theorem pi_zipK {e2 : Expr} {p pos tpos : Pos} {elts : List Expr} {kk : Nat} (hg : Gl X "zip") (hm : X.mg "zip" = none) (ha : PA X [e, e2] ta) (h : X.K = K := by rfl)
    (hs : starEach [e, e2] X.env = (false, eval e X.env) :: starEach [e2] X.env := by rfl) (hpl : (backTo pos (starEach [e2] X.env)).any (·.1) = false := by rfl) :
    PI X (.Tuple elts kk tpos) (.Call (.Name "zip" p) [e, e2] [] pos) (RZ.iZipA K ta) := by subst h; exact RZ.pi_zipA hg hm ha hs hpl
theorem pi_revK {p pos : Pos} (hg : Gl X "reversed") (hm : X.mg "reversed" = none) (he : PE X e te) (h : X.K = K := by rfl) (hs : starEach [e] X.env = (false, eval e X.env) :: starEach [] X.env := by rfl) : PI X tg (.Call (.Name "reversed" p) [e] [] pos) (RT.iRevA K te) := by
  subst h; exact RT.pi_revA hg hm he hs
theorem pg_tupK {es : List Expr} {k : Nat} {t : TGs} {n : Nat} {pos : Pos} (hc : X.calm = true) (hp : PGs X es t) (h : X.K = K := by rfl)
    (hn : (assignEach es X.env).length = n := by rfl) (hst : (assignEach es X.env).findIdx? (·.1) = none := by rfl) : PG X (.Tuple es k pos) (gTup K n t) := by subst h; exact pg_tup hc hp hn hst
/-- a test by truth -/
def tTruU (K : PySem.W.Frag) (ta : TE) : TT := fun σ H Q => ta σ H fun x H' => ∃ k, TruV K x H' k ∧ Q k H'
theorem pt_truthK (ha : PE X e te) (he : ∀ whole, isTrue e X.env whole = (do let v ← whole; standAt e.pos; holding [v] (truthy v))) (h : X.K = K := by rfl) : PT X e (tTruU K te) := by subst h; exact pt_truth ha he
variable {name : Str} {apos cpos : Pos} {T id : String} {r : V → List V → Hp → VK → Prop}
theorem pe_bm0K (pa : PlainAttrs T) (slot : Slot T name id) (hty : typeOf (.builtin id) = pure (.type "method_descriptor")) (hm : MtR X id r) (ho : PE X o to) (h : X.K = K := by rfl)
    (hbase : attributeBase o name X.env (eval o X.env) = eval o X.env := by rfl) (hline : (apos.endLine == cpos.line) = true := by rfl) : PE X (.Call (.Attribute o name apos) [] [] cpos) (tBM0 K T r to) := by
  subst h; exact pe_bm0 pa slot hty hm ho hbase hline
theorem pe_bmK (pa : PlainAttrs T) (slot : Slot T name id) (hty : typeOf (.builtin id) = pure (.type "method_descriptor")) (hm : MtR X id r) (ho : PE X o to) (ha : PA X (e :: es) t) (h : X.K = K := by rfl)
    (hbase : attributeBase o name X.env (eval o X.env) = eval o X.env := by rfl)
    (hfew : ((backTo cpos (starEach (e :: es) X.env)).all (fun x => !x.1) && (backToKw cpos (keywordEach [] X.env)).all (fun x => x.1.isSome)
      && decide ((e :: es).length + ([] : List Keyword).length + (if ([] : List Keyword).isEmpty then 0 else 1) < 30)) = true := by rfl)
    (hline : (apos.endLine == cpos.line) = true := by rfl) (hs : starEach (e :: es) X.env = (false, eval e X.env) :: starEach es X.env := by rfl) (hplain : (backTo cpos (starEach es X.env)).any (·.1) = false := by rfl) :
    PE X (.Call (.Attribute o name apos) (e :: es) [] cpos) (tBM K T r to t) := by subst h; exact pe_bm pa slot hty hm ho ha hbase hfew hline hs hplain
end
section
variable {X : Cx}
def rMin3 : List V → Hp → VK → Prop := fun xs H Q => ∃ a b c, xs = [.int a, .int b, .int c] ∧ Q (.int (if b < a then (if c < b then c else b) else (if c < a then c else a))) H
theorem min3U (hc : X.calm = true) : CallR X (.builtin "min") rMin3 := by
  intro pins s σ H xs us Q I r h
  obtain ⟨a, b, c, rfl, q⟩ := h
  cases r with
  | cons r1 r =>
    cases r with
    | cons r2 r =>
      cases r with
      | cons r3 r =>
        cases r
        obtain ⟨t1, rfl⟩ := r1
        obtain ⟨t2, rfl⟩ := r2
        obtain ⟨t3, rfl⟩ := r3
        refine min_three_ints (I.ok.hd hc) fun h' tk k => ⟨_, H, I.kept k, ?_, q⟩
        by_cases h1 : b < a
        · simp only [if_pos h1]
          by_cases h2 : c < b
          · simp only [if_pos h2]; exact ⟨_, rfl⟩
          · simp only [if_neg h2]; exact ⟨_, rfl⟩
        · simp only [if_neg h1]
          by_cases h2 : c < a
          · simp only [if_pos h2]; exact ⟨_, rfl⟩
          · simp only [if_neg h2]; exact ⟨_, rfl⟩
theorem u_min3 {H : Hp} {Q : VK} {a b c : Int} (h : Q (.int (if b < a then (if c < b then c else b) else (if c < a then c else a))) H) : rMin3 [.int a, .int b, .int c] H Q := ⟨a, b, c, rfl, h⟩
/-- a < b < c < d -/
def tChain3 (r r' r'' : R2) (ta tb tc td : TE) : TE := fun σ H Q => ta σ H fun x H1 => tb σ H1 fun y H2 => r x y H2 fun z H3 => ∃ k, z = .bl k ∧
  (if k = true then tc σ H3 fun w H4 => r' y w H4 fun z2 H5 => ∃ k2, z2 = .bl k2 ∧ (if k2 = true then td σ H5 fun v H6 => r'' w v H6 Q else Q (.bl false) H5) else Q (.bl false) H3)
theorem pe_chain3 {a b c d : Expr} {pos : Pos} {ta tb tc td : TE} {op op' op'' : CmpOp} {r r' r'' : R2} (ho : OpR X (compareOp op) r) (ho' : OpR X (compareOp op') r') (ho'' : OpR X (compareOp op'') r'') (ha : PE X a ta) (hb : PE X b tb) (hc : PE X c tc) (hd : PE X d td)
    (hm : lastMarks [op, op', op''] [b, c, d] = false := by with_unfolding_all rfl) : PE X (.Compare a [op, op', op''] [b, c, d] pos) (tChain3 r r' r'' ta tb tc td) := by
  refine ⟨fun pins s σ H Q I h => ?_⟩
  refine PyProof.Rows.Compare_chain (thn (ha.run pins s σ H _ I h) fun v s1 ⟨x, H1, I1, r1, q1⟩ => PyProof.Rows.chain_link (thn (hb.run pins s1 σ H1 _ I1 q1) fun u s2 ⟨y, H2, I2, r2, q2⟩ =>
    thn (ho pins s2 σ H2 x y v u _ I2 r1 r2 q2) fun d s3 ⟨z, H3, I3, r3, k, e, q3⟩ => ?_)) hm
  subst e
  cases r3
  refine wpAny_truthy_bool ?_
  cases k with
  | false => exact PyProof.Rows.ite_ff ⟨.bl false, H3, I3, rfl, q3⟩
  | true =>
    refine PyProof.Rows.ite_tt (PyProof.Rows.chain_link (thn (hc.run pins s3 σ H3 _ I3 q3) fun w' s4 ⟨z', H4, I4, r4, q4⟩ => thn (ho' pins s4 σ H4 y z' u w' _ I4 r2 r4 q4) fun d2 s5 ⟨z5, H5, I5, r5, k5, e5, q5⟩ => ?_))
    subst e5
    cases r5
    refine wpAny_truthy_bool ?_
    cases k5 with
    | false => exact PyProof.Rows.ite_ff ⟨.bl false, H5, I5, rfl, q5⟩
    | true => exact PyProof.Rows.ite_tt (PyProof.Rows.chain_last (thn (hd.run pins s5 σ H5 _ I5 q5) fun w2 s6 ⟨z6, H6, I6, r6, q6⟩ => ho'' pins s6 σ H6 z' z6 w' w2 Q I6 r4 r6 q6))
end
section
variable {σ : St} {H : Hp} {Q : VK} {D : Ends} {ta tb tc td te : TE} {K : PySem.W.Frag}
theorem rd_chain3 {r r' r'' : R2} (h : ta σ H fun x H1 => tb σ H1 fun y H2 => r x y H2 fun z H3 => ∃ k, z = .bl k ∧
  (if k = true then tc σ H3 fun w H4 => r' y w H4 fun z2 H5 => ∃ k2, z2 = .bl k2 ∧ (if k2 = true then td σ H5 fun v H6 => r'' w v H6 Q else Q (.bl false) H5) else Q (.bl false) H3)) : tChain3 r r' r'' ta tb tc td σ H Q := h
theorem rd_tru {R : Bool → Hp → Prop} (h : te σ H fun x H' => ∃ k, TruV K x H' k ∧ R k H') : tTruU K te σ H R := h
theorem rd_truL {a : Addr} {xs : List V} {R : Bool → Prop} (s : SqL K H a xs) (h : R (!xs.isEmpty)) : ∃ k, TruV K (.ref a) H k ∧ R k := ⟨_, .inl ⟨xs, s, rfl⟩, h⟩
theorem rd_truB {b : Bool} {R : Bool → Prop} (h : R b) : ∃ k, TruV K (.bl b) H k ∧ R k := ⟨b, rfl, h⟩
theorem rd_rev (h : te σ H fun x H1 => ∃ a xs, x = .ref a ∧ ((SqL K H1 a xs ∧ ∀ p, H1 p = none → Q (.ref p) (upd H1 p (.lst xs.reverse))) ∨ (SqT K H1 a xs ∧ ∀ p, H1 p = none → Q (.ref p) (upd H1 p (.tup xs.reverse))))) : tRevU K te σ H Q := h
theorem rd_revT {a : Addr} {xs : List V} {R1 R2 : Addr → List V → Prop} (s : SqT K H a xs) (h : R2 a xs) : ∃ a' xs', V.ref a = .ref a' ∧ ((SqL K H a' xs' ∧ R1 a' xs') ∨ (SqT K H a' xs' ∧ R2 a' xs')) := ⟨a, xs, rfl, .inr ⟨s, h⟩⟩
theorem rd_revL {a : Addr} {xs : List V} {R1 R2 : Addr → List V → Prop} (s : SqL K H a xs) (h : R1 a xs) : ∃ a' xs', V.ref a = .ref a' ∧ ((SqL K H a' xs' ∧ R1 a' xs') ∨ (SqT K H a' xs' ∧ R2 a' xs')) := ⟨a, xs, rfl, .inl ⟨s, h⟩⟩
theorem rd_bm {T : String} {r : V → List V → Hp → VK → Prop} {t : TA} (h : te σ H fun x H1 => tyV K T x H1 ∧ t σ H1 fun xs H2 => r x xs H2 Q) : tBM K T r te t σ H Q := h
theorem rd_bm0 {T : String} {r : V → List V → Hp → VK → Prop} (h : te σ H fun x H1 => tyV K T x H1 ∧ r x [] H1 Q) : tBM0 K T r te σ H Q := h
theorem rd_tyL {a : Addr} {xs : List V} {R : Prop} (s : SqL K H a xs) (h : R) : tyV K "list" (.ref a) H ∧ R := ⟨.inl ⟨rfl, xs, s⟩, h⟩
theorem u_app {a : Addr} {xs : List V} {y : V} (e : H a = some (.lst xs)) (l : xs.length < sizeLine) (h : Q .non (upd H a (.lst (xs ++ [y])))) : rAppend (.ref a) [y] H Q := ⟨a, xs, y, rfl, rfl, e, l, h⟩
theorem u_pop {a : Addr} {xs : List V} {y : V} (e : H a = some (.lst xs)) (l : xs[xs.length - 1]? = some y) (h : Q y (upd H a (.lst xs.dropLast))) : rPop (.ref a) [] H Q := ⟨a, xs, y, rfl, rfl, e, l, h⟩
theorem u_extT {a b : Addr} {xs ys : List V} (e : H a = some (.lst xs)) (s : SqT K H b ys) (l : xs.length + ys.length ≤ sizeLine) (h : Q .non (upd H a (.lst (xs ++ ys)))) : rExtU K (.ref a) [.ref b] H Q := .inr ⟨a, b, xs, ys, rfl, rfl, e, s, l, h⟩
theorem rd_for {wi : TI} {g : TG} {tb : TS} {n bk ct : St → Hp → Prop} {rt : VK} (h : wi σ H fun J H1 => ∃ W : Nat → Nat → St → Hp → Prop, (∃ m, W 0 m σ H1) ∧ ∀ i m σ H, W i m σ H →
  (J.stop i H ∧ n σ H) ∨ (J.go i H ∧ ∃ N : St → Hp → Prop, (∀ σ' H', N σ' H' → ∃ m', m' < m ∧ W (i + 1) m' σ' H') ∧ ∀ x H', J.yld i H x H' → g x σ H' fun σ2 H2 => tb ⟨N, rt, n, N⟩ σ2 H2)) : tFor wi g tb ⟨n, rt, bk, ct⟩ σ H := h
theorem rd_iList {R : It → Hp → Prop} (h : te σ H fun x H1 => ∃ a, x = .ref a ∧ (∃ xs, SqL K H1 a xs) ∧ R (Itl K a) H1) : iList K te σ H R := h
theorem rd_iTup {R : It → Hp → Prop} (h : te σ H fun x H1 => ∃ a, x = .ref a ∧ (∃ xs, SqT K H1 a xs) ∧ R (Itt K a) H1) : iTup K te σ H R := h
theorem rd_itL {a : Addr} {xs : List V} {R : Addr → Prop} (s : SqL K H a xs) (h : R a) : ∃ a', V.ref a = .ref a' ∧ (∃ xs, SqL K H a' xs) ∧ R a' := ⟨a, rfl, ⟨xs, s⟩, h⟩
theorem rd_itT {a : Addr} {xs : List V} {R : Addr → Prop} (s : SqT K H a xs) (h : R a) : ∃ a', V.ref a = .ref a' ∧ (∃ xs, SqT K H a' xs) ∧ R a' := ⟨a, rfl, ⟨xs, s⟩, h⟩
theorem rd_rng1 {t : TA} {R : It → Hp → Prop} (h : t σ H fun vs H1 => ∃ j : Int, vs = [.int j] ∧ -(2 ^ 62) ≤ j ∧ j < 2 ^ 62 ∧ R (Itr 0 j.toNat) H1) : iRng1 t σ H R := h
theorem rd_rng2 {t : TA} {R : It → Hp → Prop} (h : t σ H fun vs H1 => ∃ i j : Int, vs = [.int i, .int j] ∧ (-(2 ^ 62) ≤ i ∧ i < 2 ^ 62 ∧ -(2 ^ 62) ≤ j ∧ j < 2 ^ 62) ∧ R (Itr i (j - i).toNat) H1) : iRng2 t σ H R := h
theorem rd_rng1e {i : Int} {R : Int → Prop} (h1 : -(2 ^ 62) ≤ i) (h2 : i < 2 ^ 62) (h : R i) : ∃ j : Int, [V.int i] = [.int j] ∧ -(2 ^ 62) ≤ j ∧ j < 2 ^ 62 ∧ R j := ⟨i, rfl, h1, h2, h⟩
theorem rd_rng2e {i j : Int} {R : Int → Int → Prop} (h1 : -(2 ^ 62) ≤ i ∧ i < 2 ^ 62 ∧ -(2 ^ 62) ≤ j ∧ j < 2 ^ 62) (h : R i j) : ∃ i' j' : Int, [V.int i, V.int j] = [.int i', .int j'] ∧ (-(2 ^ 62) ≤ i' ∧ i' < 2 ^ 62 ∧ -(2 ^ 62) ≤ j' ∧ j' < 2 ^ 62) ∧ R i' j' := ⟨i, j, rfl, h1, h⟩
theorem rd_gtup {n : Nat} {t : TGs} {a : Addr} {xs : List V} {R : St → Hp → Prop} (s : SqT K H a xs) (l : xs.length = n) (h : t xs σ H R) : gTup K n t (.ref a) σ H R := ⟨a, xs, rfl, s, l, h⟩
theorem rd_gcons {t : TG} {u : TGs} {v : V} {r : List V} {R : St → Hp → Prop} (h : t v σ H fun σ' H' => u r σ' H' R) : gCons t u (v :: r) σ H R := ⟨v, r, rfl, h⟩
theorem rd_gnil {R : St → Hp → Prop} (h : R σ H) : gNil [] σ H R := ⟨rfl, h⟩
theorem st0 {N : List Str} {vs : List V} {t : TS} (σ : St) (e : L2.start N vs = σ) (h : t D σ H) : t D (L2.start N vs) H := by rw [e]; exact h
end
end Mine
namespace Mine
open PySem PySem.Spec L2
section
variable {g : TG} {tb : TS} {n : St → Hp → Prop} {rt : VK} {σ : St} {H : Hp} {K : PySem.W.Frag} {a : Addr} {xs : List V}
theorem forR {lo : Int} {m : Nat} (Pv : Nat → St → Hp → Prop) (h0 : Pv 0 σ H)
    (hs : ∀ i σ H, i < m → Pv i σ H → g (.int (lo + i)) σ H fun σ2 H2 => tb ⟨Pv (i + 1), rt, n, Pv (i + 1)⟩ σ2 H2) (hd : ∀ σ H, Pv m σ H → n σ H) :
    ∃ W : Nat → Nat → St → Hp → Prop, (∃ m, W 0 m σ H) ∧ ∀ i m' σ H, W i m' σ H →
      ((Itr lo m).stop i H ∧ n σ H) ∨ ((Itr lo m).go i H ∧ ∃ N : St → Hp → Prop, (∀ σ' H', N σ' H' → ∃ m'', m'' < m' ∧ W (i + 1) m'' σ' H') ∧ ∀ x H', (Itr lo m).yld i H x H' → g x σ H' fun σ2 H2 => tb ⟨N, rt, n, N⟩ σ2 H2) :=
  for_range (D := ⟨n, rt, fun _ _ => False, fun _ _ => False⟩) Pv h0 hs hd
theorem forL (Pv : Nat → St → Hp → Prop) (h0 : Pv 0 σ H) (hl : ∀ i σ H, i ≤ xs.length → Pv i σ H → SqL K H a xs)
    (hs : ∀ i x σ H, xs[i]? = some x → Pv i σ H → g x σ H fun σ2 H2 => tb ⟨Pv (i + 1), rt, n, Pv (i + 1)⟩ σ2 H2) (hd : ∀ σ H, Pv xs.length σ H → n σ H) :
    ∃ W : Nat → Nat → St → Hp → Prop, (∃ m, W 0 m σ H) ∧ ∀ i m σ H, W i m σ H →
      ((Itl K a).stop i H ∧ n σ H) ∨ ((Itl K a).go i H ∧ ∃ N : St → Hp → Prop, (∀ σ' H', N σ' H' → ∃ m', m' < m ∧ W (i + 1) m' σ' H') ∧ ∀ x H', (Itl K a).yld i H x H' → g x σ H' fun σ2 H2 => tb ⟨N, rt, n, N⟩ σ2 H2) :=
  for_list (D := ⟨n, rt, fun _ _ => False, fun _ _ => False⟩) Pv h0 hl hs hd
theorem forT (Pv : Nat → St → Hp → Prop) (h0 : Pv 0 σ H) (hl : ∀ i σ H, i ≤ xs.length → Pv i σ H → SqT K H a xs)
    (hs : ∀ i x σ H, xs[i]? = some x → Pv i σ H → g x σ H fun σ2 H2 => tb ⟨Pv (i + 1), rt, n, Pv (i + 1)⟩ σ2 H2) (hd : ∀ σ H, Pv xs.length σ H → n σ H) :
    ∃ W : Nat → Nat → St → Hp → Prop, (∃ m, W 0 m σ H) ∧ ∀ i m σ H, W i m σ H →
      ((Itt K a).stop i H ∧ n σ H) ∨ ((Itt K a).go i H ∧ ∃ N : St → Hp → Prop, (∀ σ' H', N σ' H' → ∃ m', m' < m ∧ W (i + 1) m' σ' H') ∧ ∀ x H', (Itt K a).yld i H x H' → g x σ H' fun σ2 H2 => tb ⟨N, rt, n, N⟩ σ2 H2) :=
  for_tup (D := ⟨n, rt, fun _ _ => False, fun _ _ => False⟩) Pv h0 hl hs hd
theorem rd_lc {wi : TI} {tt : TT} {te : TE} {vs : List Nat} {Q : VK} (h : wi σ H fun J H1 => ∀ D, H1 D = none → ∃ W : Nat → Nat → Hp → Prop, (∃ m, W 0 m (upd H1 D (.lst []))) ∧ ∀ i m H, W i m H →
  (J.stop i H ∧ Q (.ref D) H) ∨ (J.go i H ∧ ∃ Nx : Hp → Prop, (∀ H', Nx H' → ∃ m', m' < m ∧ W (i + 1) m' H') ∧ ∀ x H', J.yld i H x H' → g x (wipe σ vs) H' fun σ2 H2 => wipe σ2 vs = wipe σ vs ∧ tt σ2 H2 fun b H3 =>
    if b = true then te σ2 H3 fun y H4 => ∃ acc, H4 D = some (.lst acc) ∧ acc.length < sizeLine ∧ Nx (upd H4 D (.lst (acc ++ [y]))) else Nx H3)) : tLc wi g tt te vs σ H Q := h
theorem rd_yes {R : Bool → Hp → Prop} (h : R true H) : tYes σ H R := h
/-- a while -/
theorem rd_while {c : TT} {bk ct : St → Hp → Prop} (Pv : Nat → St → Hp → Prop) (m0 : Nat) (h0 : Pv m0 σ H)
    (hs : ∀ m σ H, Pv m σ H → c σ H fun b H1 => if b = true then (∃ N : St → Hp → Prop, (∀ σ' H', N σ' H' → ∃ m', m' < m ∧ Pv m' σ' H') ∧ tb ⟨N, rt, n, N⟩ σ H1) else n σ H1) :
    tWhile c tb ⟨n, rt, bk, ct⟩ σ H := ⟨Pv, ⟨m0, h0⟩, hs⟩
end
end Mine

/-! ### Kit5 -/
namespace Mine
open PySem PySem.Spec L2
/-! ## a list or a tuple that is walked -/
section
variable {X : Cx} (K : PySem.W.Frag) {tg e : Expr} {te : TE}
def iSeq (K : PySem.W.Frag) (tl : TE) : TI := fun σ H R => tl σ H fun x H1 => ∃ a, x = .ref a ∧ (((∃ xs, SqL K H1 a xs) ∧ R (Itl K a) H1) ∨ ((∃ xs, SqT K H1 a xs) ∧ R (Itt K a) H1))
theorem pi_seqK (he : PE X e te) (h : X.K = K := by rfl) : PI X tg e (iSeq K te) := by
  subst h
  refine ⟨fun pins s σ H R I h => ?_⟩
  refine thn (he.run pins s σ H _ I h) fun v s1 ⟨x, H1, I1, r1, a, ex, q⟩ => ?_
  subst ex
  cases r1
  have it : ∀ b, b ∈ [s1.heap.objs.size] → FpOk X pins H1 b := fun b hb => by
    obtain rfl : b = s1.heap.objs.size := by simpa using hb
    exact I1.fpOk (Nat.le_refl _) (I1.hok.fresh (Nat.le_refl _))
  rcases q with ⟨⟨xs, hx⟩, q⟩ | ⟨⟨xs, hx⟩, q⟩
  · obtain ⟨its, rv, p, hz⟩ := I1.list hx
    exact wpAny_pyIter_list p.isList ⟨s1.heap.objs.size, [s1.heap.objs.size], _, _, H1, rfl, I1.kept (t' := s1.toks) fun b o e => Heap.get?_push_of_some _ e, turn_list a _, ⟨_, Heap.get?_push_size _ rfl, rfl, rfl⟩, it, q⟩
  · obtain ⟨its, rv, p, hz⟩ := I1.tuple hx
    exact wpAny_pyIter_tuple (show s1.heap.IsTuple a its.toArray from p) ⟨s1.heap.objs.size, [s1.heap.objs.size], _, _, H1, rfl, I1.kept (t' := s1.toks) fun b o e => Heap.get?_push_of_some _ e, turn_tuple a _, ⟨_, Heap.get?_push_size _ rfl, rfl, rfl⟩, it, q⟩
theorem kAll (hc : X.calm = true) (h : X.K = K := by rfl) : CallR X (.builtin "all") (rAll K) := by subst h; exact cr_all hc
theorem kAny (hc : X.calm = true) (h : X.K = K := by rfl) : CallR X (.builtin "any") (rAny K) := by subst h; exact cr_any hc
end
section
variable {K : PySem.W.Frag} {σ : St} {H : Hp} {Q : VK} {te : TE} {a : Addr} {xs : List V}
theorem rd_iSeq {R : It → Hp → Prop} (h : te σ H fun x H1 => ∃ a, x = .ref a ∧ (((∃ xs, SqL K H1 a xs) ∧ R (Itl K a) H1) ∨ ((∃ xs, SqT K H1 a xs) ∧ R (Itt K a) H1))) : iSeq K te σ H R := h
theorem rd_seqL {R1 R2 : Addr → Prop} (s : SqL K H a xs) (h : R1 a) : ∃ a', V.ref a = .ref a' ∧ (((∃ xs, SqL K H a' xs) ∧ R1 a') ∨ ((∃ xs, SqT K H a' xs) ∧ R2 a')) := ⟨a, rfl, .inl ⟨⟨xs, s⟩, h⟩⟩
theorem rd_seqT {R1 R2 : Addr → Prop} (s : SqT K H a xs) (h : R2 a) : ∃ a', V.ref a = .ref a' ∧ (((∃ xs, SqL K H a' xs) ∧ R1 a') ∨ ((∃ xs, SqT K H a' xs) ∧ R2 a')) := ⟨a, rfl, .inr ⟨⟨xs, s⟩, h⟩⟩
theorem rd_istr {R : It → Hp → Prop} (h : te σ H fun v H1 => ∃ x, v = .str x ∧ R (Its x) H1) : iStr te σ H R := h
theorem rd_istrE {z : Str} {R : Str → Prop} (h : R z) : ∃ x, V.str z = .str x ∧ R x := ⟨z, rfl, h⟩
theorem u_all {bs : List Bool} (s : SqL K H a (bs.map V.bl)) (h : Q (.bl (bs.all id)) H) : rAll K [.ref a] H Q := ⟨a, bs, rfl, s, h⟩
end
/-- a text walked in a comprehension -/
theorem lcS {x : Str} {g : TG} {tt : TT} {te : TE} {vs : List Nat} {σ : St} {H1 : Hp} {D : Addr} {Qd : Hp → Prop} (Pv : Nat → Hp → Prop) (h0 : Pv 0 (upd H1 D (.lst [])))
    (hs : ∀ i c H, x.cps[i]? = some c → Pv i H → g (.str ⟨#[c]⟩) (wipe σ vs) H fun σ2 H2 => wipe σ2 vs = wipe σ vs ∧ tt σ2 H2 fun b H3 =>
      if b = true then te σ2 H3 fun y H4 => ∃ acc, H4 D = some (.lst acc) ∧ acc.length < sizeLine ∧ Pv (i + 1) (upd H4 D (.lst (acc ++ [y]))) else Pv (i + 1) H3) (hd : ∀ H, Pv x.cps.size H → Qd H) :
    ∃ W : Nat → Nat → Hp → Prop, (∃ m, W 0 m (upd H1 D (.lst []))) ∧ ∀ i m H, W i m H →
      ((Its x).stop i H ∧ Qd H) ∨ ((Its x).go i H ∧ ∃ Nx : Hp → Prop, (∀ H', Nx H' → ∃ m', m' < m ∧ W (i + 1) m' H') ∧ ∀ v H', (Its x).yld i H v H' → g v (wipe σ vs) H' fun σ2 H2 => wipe σ2 vs = wipe σ vs ∧ tt σ2 H2 fun b H3 =>
        if b = true then te σ2 H3 fun y H4 => ∃ acc, H4 D = some (.lst acc) ∧ acc.length < sizeLine ∧ Nx (upd H4 D (.lst (acc ++ [y]))) else Nx H3) := by
  refine ⟨fun i m H => m = x.cps.size - i ∧ i ≤ x.cps.size ∧ Pv i H, ⟨x.cps.size, by simp, Nat.zero_le _, h0⟩, ?_⟩
  rintro i m H ⟨rfl, hi, p⟩
  by_cases hlt : i < x.cps.size
  · refine .inr ⟨hlt, Pv (i + 1), fun H' p' => ⟨x.cps.size - (i + 1), by omega, rfl, hlt, p'⟩, fun v H' y => ?_⟩
    obtain ⟨e, c, hc, ev⟩ := y
    subst e ev
    exact hs i c _ hc p
  · obtain rfl : i = x.cps.size := by omega
    exact .inl ⟨Nat.le_refl _, hd H p⟩
/-! ## isinstance of data -/
def isT (n : String) : PyData → Bool
  | .none => n == "NoneType"
  | .bool _ => n == "bool" || n == "int"
  | .int _ => n == "int"
  | .str _ => n == "str"
  | .tuple _ => n == "tuple"
  | _ => false
theorem tyx_tup {K : PySem.W.Frag} {H : Hp} {a : Addr} {xs : List V} (h : SqT K H a xs) : TyX K H (.ref a) (.type "tuple") := by
  rcases h with (h | ⟨o, h⟩) | ⟨o, its, n, e, c, _⟩
  · exact .base (.tup h)
  · exact .fTuple h
  · exact .kTuple e c
theorem u_isi {K : PySem.W.Frag} {H : Hp} {Q : VK} {v : V} {d : PyData} {n : String} (hn : n = "int" ∨ n = "str" ∨ n = "tuple" ∨ n = "bool") (r : Rp K H v d) (h : Q (.bl (isT n d)) H) : rIsi K [v, .ty n] H Q := by
  cases r with
  | non => rcases hn with rfl | rfl | rfl | rfl <;> exact ⟨_, _, _, _, _, rfl, .ty _, .base .non, kit_ty (by simp only [isT]; decide +kernel), h⟩
  | bl b => rcases hn with rfl | rfl | rfl | rfl <;> exact ⟨_, _, _, _, _, rfl, .ty _, .base (.bl b), kit_ty (by simp only [isT]; decide +kernel), h⟩
  | int i => rcases hn with rfl | rfl | rfl | rfl <;> exact ⟨_, _, _, _, _, rfl, .ty _, .base (.int i), kit_ty (by simp only [isT]; decide +kernel), h⟩
  | str z => rcases hn with rfl | rfl | rfl | rfl <;> exact ⟨_, _, _, _, _, rfl, .ty _, .base (.str z), kit_ty (by simp only [isT]; decide +kernel), h⟩
  | tup s _ => rcases hn with rfl | rfl | rfl | rfl <;> exact ⟨_, _, _, _, _, rfl, .ty _, tyx_tup s, kit_ty (by simp only [isT]; decide +kernel), h⟩
end Mine

/-! ### Kit6 -/
namespace L2
open PySem PySem.Spec PyProof.Rows
/-! ## several except clauses, with names or without -/
abbrev Cl := Value × Option Nat × (Addr → Value → Option Addr → TS)
def endsAt (D : Ends) : Option Nat → Ends
  | none => D
  | some i => { nx := fun σ' H' => D.nx (σ'.set i none) H', rt := D.rt, bk := fun σ' H' => D.bk (σ'.set i none) H', ct := fun σ' H' => D.ct (σ'.set i none) H' }
def stAt (σ : St) (a : Addr) : Option Nat → St
  | none => σ
  | some i => σ.set i (some (.ref a))
def wMix (K : PySem.W.Frag) (Wout : WX) (D : Ends) : List Cl → WX
  | [] => Wout
  | (c, o, ts) :: r => fun cls d σ H => ∃ b, PySem.W.exmOne K cls c = some b ∧ (b = true → ∀ a, H a = none → ts a cls d (endsAt D o) (stAt σ a o) H) ∧ (b = false → wMix K Wout D r cls d σ H)
inductive Hds (X : Cx) : List ExceptHandler → List Cl → Prop
  | nil : Hds X [] []
  | plain {x : Str} {c : Value} {ts : Addr → Value → Option Addr → TS} {b₀ : Stmt} {suite : List Stmt} {np pos' : Pos} {hds : List ExceptHandler} {l : List Cl} (hc : Names X x c)
      (hsu : ∀ (a : Addr) (oe : Obj) (cls : Value) (d : Option Addr) (pn : List (Addr × Obj)), Zc cls d oe → (∃ vs, oe.data = .fields vs) → PSs (X.suite a ((a, oe) :: pn)) (b₀ :: suite) (ts a cls d)) (r : Hds X hds l) :
      Hds X (.ExceptHandler (some (.Name x np)) none (b₀ :: suite) pos' :: hds) ((c, none, ts) :: l)
  | named {x n : Str} {i : Nat} {c : Value} {ts : Addr → Value → Option Addr → TS} {b₀ : Stmt} {suite : List Stmt} {np pos' : Pos} {hds : List ExceptHandler} {l : List Cl} (hc : Names X x c) (hN : X.N.Nodup) (hi : X.N[i]? = some n) (hln : X.env.kindOf n = some .local)
      (hsu : ∀ (a : Addr) (oe : Obj) (cls : Value) (d : Option Addr) (pn : List (Addr × Obj)), Zc cls d oe → (∃ vs, oe.data = .fields vs) → PSs (X.suite a ((a, oe) :: pn)) (b₀ :: suite) (ts a cls d)) (r : Hds X hds l) :
      Hds X (.ExceptHandler (some (.Name x np)) (some n) (b₀ :: suite) pos' :: hds) ((c, some i, ts) :: l)
section
variable {X : Cx} {body : List Stmt} {h₀ : ExceptHandler} {hds : List ExceptHandler} {l : List Cl} {pos : Pos} {tb : WX → TS} {Wout : WX}
theorem ps_try_mix (hs : X.stack = X.env :: X.outer) (hf : X.env.frame = some X.env.locals) (tk : Takes X Wout)
    (hb : ∀ (W : WX) (pn : List (Addr × Obj)) (xe : Value → Shared → Prop), Takes (X.tr pn xe) W → PassesOwn (model X.prog X.w) X.A X.env xe → PSs (X.tr pn xe) body (tb W))
    (K : PySem.W.Frag) (hK : X.K = K) (hh : Hds X (h₀ :: hds) l) : PS X (.Try body (h₀ :: hds) [] [] pos) (fun D σ H => tb (wMix K Wout D l) D σ H) := by
  subst hK
  refine ⟨fun pins s σ H D I h => ?_⟩
  have ok := I.ok
  have hfr : X.A.frames = some (X.env :: X.outer) := by rw [ok.frames, hs]
  refine wpAny_Try_except ?_
  refine wpAny_mono ((hb (wMix X.K Wout D l) (X.pn ++ pins) (fun e s₁ => wpAny (model X.prog X.w) X.A (noteFrame e X.env) (fun _ s₂ => wpAny (model X.prog X.w) X.A (setFlight e none) (fun _ s₃ =>
    wpAny (model X.prog X.w) X.A (handleBy e X.env (h₀ :: hds)) (SP X pins D) X.xe s₃) X.xe s₂) X.xe s₁) (fun u s' xx => ?_) PassesOwn.looking).run [] s σ H D (I.toTry _) h) (fun f s1 hsp => ?_) (fun e s1 he => he)
  · obtain ⟨a, B, sI, pins', σ', H', cls, d, rfl, J', nb, up, sky, na, os, ag, w⟩ := xx
    have J : Inv X pins σ' H' sI := J'.ofTry ok
    have sky' : Sky B (X.env :: X.outer) a (Zc cls d) X.env.locals s'.heap := by rw [← hs]; exact sky
    show wpAny (model X.prog X.w) X.A (noteFrame (.ref a) X.env) _ _ _
    refine Sky.land Zc.steady hfr hf sky' fun h3 fl3 up3 => ?_
    have J3 : Inv X pins σ' H' { s' with heap := h3 } := J.landed nb fl3.1 (up.trans up3) os ag
    obtain ⟨oe3, vs3, he3, hz3, hd3⟩ := fl3.there
    have notFr : ∀ {h : Heap} {o : Obj} {vs : Array Value}, h.FunFrames B (X.env :: X.outer) → h.get? a = some o → o.data = .fields vs → a ∉ frs (X.env :: X.outer) := fun {h o vs} ff e dd hm => by
      obtain ⟨_, o', e', hnf⟩ := ff.mem hm
      rw [e] at e'; cases e'
      exact hnf _ dd
    have nfr := notFr fl3.2.2.1 he3 hd3
    have nL : a ≠ X.env.locals := fun z => nfr (List.mem_filterMap.mpr ⟨X.env, List.mem_cons_self, by rw [hf, z]⟩)
    have nF : a ∉ X.fs := fun hm => by
      obtain ⟨e, he, q⟩ := List.mem_filterMap.mp hm
      exact nfr (List.mem_filterMap.mpr ⟨e, List.mem_cons_of_mem _ he, q⟩)
    have S3 := J3.suite he3 hd3 na nL nF
    have LT : PySem.W.Looks (model X.prog X.w) h3 (typeOf (.ref a)) cls := fun A Q E s k q => wpAny_typeOf_ref (k _ _ he3) (by rw [hz3.1]; exact q)
    have test : ∀ {x : Str} {c : Value} {np : Pos}, Names X x c → ∀ {Q : Value → Shared → Prop} {E : Value → Shared → Prop}, Q c { s' with heap := h3 } → wpAny (model X.prog X.w) (X.A.mark (some (.ref a))) (eval (.Name x np) X.env) Q E { s' with heap := h3 } := fun {x c np} hc {Q E} q => by
      obtain ⟨hg, hdbg, hm | ⟨hm, hv, hnn⟩⟩ := hc
      · exact ld_glob (X := X.suite a ((a, oe3) :: (X.pn ++ pins))) S3 hg hm q hdbg
      · exact ld_blt (X := X.suite a ((a, oe3) :: (X.pn ++ pins))) S3 hg hm hv q hnn hdbg
    have go : ∀ {hds' : List ExceptHandler} {l' : List Cl}, Hds X hds' l' → wMix X.K Wout D l' cls d σ' H' →
        wpAny (model X.prog X.w) X.A (handleBy (.ref a) X.env hds') (SP X pins D) X.xe { s' with heap := h3 } := by
      intro hds' l' hk
      induction hk with
      | nil =>
        intro w
        refine wpAny_handleBy_nil ?_
        obtain ⟨k1, k2, k3, oe, vs, T, oT, ts', he, hz, hd, h1, hr⟩ := id fl3
        unfold PySem.passOn
        refine wpAny_bind (wpAny_field he hd h1 ?_)
        rw [if_neg (show ¬ ((Value.ref T == Value.none) = true) from by simp)]
        have fin : wpAny (model X.prog X.w) X.A (setFlight (.ref a) X.env.frame) (fun _ s4 => wpAny (model X.prog X.w) X.A (throw (.ref a) : Sem Flow) (SP X pins D) X.xe s4) X.xe { s' with heap := h3 } := by
          rw [hf]
          refine HandSPX.setFlight_upZ fl3 fun h4 hh4 up4 => wpAny_throw (tk _ _ ?_)
          exact ⟨a, B, sI, pins, σ', H', cls, d, rfl, J, nb, (up.trans up3).trans up4, .inr (.inr (by rw [hs]; exact hh4)), na, os, ag, w⟩
        first
          | exact wpAny_bind (wpAny_pure (wpAny_bind fin))
          | exact wpAny_bind fin
      | @plain x c ts b₀ suite np pos' hds2 l2 hc hsu r ih =>
        intro w
        obtain ⟨b, hb1, hyes, hno⟩ := w
        have LM := PySem.W.exm_one (M := model X.prog X.w) (J3.kIn) LT hb1
        refine wpAny_handleBy_cons (codeAny_handlers_test ?_) (by intro q; cases q)
        refine test hc (LM.here ?_)
        cases b with
        | true =>
          refine codeAny_handlers_suite ?_
          refine HandSPX.lands_againZ fl3 fun h4 fl4 up4 => ?_
          have J4 : Inv X pins σ' H' { s' with heap := h4 } := J.landed nb fl4.1 ((up.trans up3).trans up4) os ag
          obtain ⟨oe4, vs4, he4, hz4, hd4⟩ := fl4.there
          have S4 := J4.suite he4 hd4 na nL nF
          refine wpAny_mono ((hsu a oe4 cls d (X.pn ++ pins) hz4 ⟨_, hd4⟩).run [] _ _ H' _ S4 (hyes rfl a na)) (fun f s6 hsp => ?_) (fun _ _ z => False.elim z)
          cases f with
          | next =>
            obtain ⟨σ6, H6, S6, q6⟩ := hsp
            exact ⟨_, _, S6.unsuite ok, q6⟩
          | brk =>
            obtain ⟨σ6, H6, S6, q6⟩ := hsp
            exact ⟨_, _, S6.unsuite ok, q6⟩
          | cont =>
            obtain ⟨σ6, H6, S6, q6⟩ := hsp
            exact ⟨_, _, S6.unsuite ok, q6⟩
          | ret u =>
            obtain ⟨v6, σ6, H6, S6, r6, q6⟩ := hsp
            exact ⟨_, _, _, S6.unsuite ok, r6, q6⟩
        | false =>
          show wpAny _ X.A (handleBy (.ref a) X.env hds2) _ _ _
          exact ih (hno rfl)
      | @named x n i c ts b₀ suite np pos' hds2 l2 hc hN hi hln hsu r ih =>
        intro w
        obtain ⟨b, hb1, hyes, hno⟩ := w
        have LM := PySem.W.exm_one (M := model X.prog X.w) (J3.kIn) LT hb1
        have hloc : Loc X.env.scope n := .inl hln
        refine wpAny_handleBy_cons (codeAny_handlers_test ?_) (by intro q; cases q)
        refine test hc (LM.here ?_)
        cases b with
        | true =>
          refine codeAny_handlers_suite_as ?_
          refine HandSPX.lands_againZ fl3 fun h4 fl4 up4 => ?_
          have J4 : Inv X pins σ' H' { s' with heap := h4 } := J.landed nb fl4.1 ((up.trans up3).trans up4) os ag
          obtain ⟨oe4, vs4, he4, hz4, hd4⟩ := fl4.there
          have S4 := J4.suite he4 hd4 na nL nF
          refine store_ok (X := X.suite a ((a, oe4) :: (X.pn ++ pins))) (v := .ref a) S4 hN hi hloc rfl (fun s5 S5 => ?_) (.inr hln)
          refine wpAny_mono ((hsu a oe4 cls d (X.pn ++ pins) hz4 ⟨_, hd4⟩).run [] s5 _ H' _ S5 (hyes rfl a na)) (fun f s6 hsp => ?_) (fun _ _ z => False.elim z)
          have end_ : ∀ {σ6 : St} {H6 : Hp} {Q : Shared → Prop}, Inv (X.suite a ((a, oe4) :: (X.pn ++ pins))) [] σ6 H6 s6 → (∀ s7, Inv X pins (σ6.set i none) H6 s7 → Q s7) →
              wpAny (model X.prog X.w) X.A (do bindName X.env n .none; unbindBehindTheSuite X.env n pos') (fun _ s7 => Q s7) X.xe s6 := fun {σ6 H6 Q} S6 hq => gone_ok (S6.unsuite ok) hN hi hln hq
          cases f with
          | next =>
            obtain ⟨σ6, H6, S6, q6⟩ := hsp
            exact end_ S6 fun s7 J7 => ⟨_, _, J7, q6⟩
          | brk =>
            obtain ⟨σ6, H6, S6, q6⟩ := hsp
            exact end_ S6 fun s7 J7 => ⟨_, _, J7, q6⟩
          | cont =>
            obtain ⟨σ6, H6, S6, q6⟩ := hsp
            exact end_ S6 fun s7 J7 => ⟨_, _, J7, q6⟩
          | ret u =>
            obtain ⟨v6, σ6, H6, S6, r6, q6⟩ := hsp
            exact end_ S6 fun s7 J7 => ⟨_, _, _, J7, r6, q6⟩
        | false =>
          show wpAny _ X.A (handleBy (.ref a) X.env hds2) _ _ _
          exact ih (hno rfl)
    exact go hh w
  · cases f with
    | next =>
      obtain ⟨σ', H', J', q⟩ := hsp
      exact wpAny_execs_nil ⟨σ', H', J'.ofTry ok, q⟩
    | brk =>
      obtain ⟨σ', H', J', q⟩ := hsp
      exact ⟨σ', H', J'.ofTry ok, q⟩
    | cont =>
      obtain ⟨σ', H', J', q⟩ := hsp
      exact ⟨σ', H', J'.ofTry ok, q⟩
    | ret u =>
      obtain ⟨v, σ', H', J', r, q⟩ := hsp
      exact ⟨v, σ', H', J'.ofTry ok, r, q⟩
end
end L2

/-! ### Kit7 -/
namespace Mine
open PySem PySem.Spec L2
/-! ## own errors over ValueError, made by the __init__ of their root: self.what = what -/
def spInit (K : PySem.W.Frag) : Sp := fun vs H Q _ => ∃ (a C : Addr) (v : V), vs = [.ref a, v] ∧ OexC K C ∧ PySem.W.findIn K (.ref C) "what" = some none ∧ H a = some (exo a C none) ∧
  ∀ dx, H dx = none → dx ≠ a → Q .non (upd (upd H dx (exd dx [("what", v)])) a (exo a C (some dx)))
/-- what the written part says of the error class of the name x -/
structure ErrC (K : PySem.W.Frag) (mg : Str → Option Value) (fI : Addr) (x : Str) (C : Addr) : Prop where
  g : mg x = some (.ref C)
  c : OexC K C
  n : PySem.W.findIn K (.ref C) "what" = some none
  i : PySem.W.findIn K (.ref C) "__init__" = some (some (.ref fI))
  f : XfC K C
/-- the root's __init__ -/
def InitF (P : Program) (w : World) (K : PySem.W.Frag) (mg : Str → Option Value) (base : Heap) (fI : Addr) : Prop :=
  PySem.W.typeIn K (.ref fI) = some (.type "function") ∧ ∃ fd : FuncData, FnOk P w K mg base CX0 1 fI fd ["self", "what"] (spInit K) ∧ Binds K fd ["self", "what"] []
theorem has_init {P : Program} {w : World} {K : PySem.W.Frag} {mg : Str → Option Value} {base : Heap} {fI : Addr} {fd : FuncData} {st : Stmt} {qual : Str} (F : Fun K "__init__" qual st fI fd) (hS : FnScope ["self", "what"] ["self", "what"] (defScope st))
    (hb : ∀ (kV doc pm : Value) (an : Option Addr) (cdv ct : Value) (us : List Value), us.length = 2 → bindArgs (PySem.W.fnOf "__init__" qual (defArgs st) (defBody st) (defScope st) .none kV doc pm an cdv ct) ⟨us, []⟩ = pure ((["self", "what"] : List Str).zip us))
    (ht : PySem.W.typeIn K (.ref fI) = some (.type "function"))
    (body : ∀ (cdv : Value) (A : Around) (outer : List Env) (s : Shared) (H : Hp) (E : XK), PSs (cxOf CX0 P w K mg base ["self", "what"] qual (defScope st) fI cdv A outer s H E).nox (defBody st) (tOst K "what" (tVar 0) (tVar 1))) :
    InitF P w K mg base fI := by
  refine ⟨ht, fd, ?_, F.binds hb⟩
  refine F.ok (k := 0) hS (fun vs H Q E h => ?_) (fun cdv A outer s H vs Q E hr h => ⟨_, body cdv A outer s H E, ?_⟩)
  · obtain ⟨a, C, v, rfl, _⟩ := h
    rfl
  obtain ⟨a, C, v, rfl, hc, hn, ha, q⟩ := h
  exact ⟨v, rfl, .ref a, rfl, a, C, rfl, hc, hn, .inl ⟨ha, q⟩⟩
section
variable {X : Cx} {W : WX}
/-- what the making of x(v) asks -/
def RaiseAt (K : PySem.W.Frag) (C : Addr) (W : WX) (σ : St) (v : V) (H1 : Hp) : Prop := [v].length ≤ 1000 ∧ ∀ a, H1 a = none → spInit K (.ref a :: ([v] ++ [])) (upd H1 a (exo a C none))
  (fun u H2 => u = .non ∧ ∃ (d : Addr) (fs : List (Str × V)), H2 a = some (exo a C (some d)) ∧ H2 d = some (exd d fs) ∧ H1 d = none ∧ W (.ref C) (some d) σ (upd (del H2 a) d (.xd fs))) (fun _ _ _ => False)
def tRaiseE (K : PySem.W.Frag) (C : Addr) (W : WX) (te : TE) : TS := fun _ σ H => te σ H fun v H1 => RaiseAt K C W σ v H1
theorem ps_raiseE {fI C : Addr} {x : Str} {p pos pos2 : Pos} {e : Expr} {te : TE} (K : PySem.W.Frag) (hI : InitF X.prog X.w X.K X.mg X.base fI) (M : ErrC X.K X.mg fI x C) (hc : X.calm = true) (hr : Room 2 X.A) (tk : Takes X W) (he : PE X e te) (hg : Gl X x) (hK : X.K = K := by rfl)
    (hs : starEach [e] X.env = (false, eval e X.env) :: starEach [] X.env := by rfl) (hpl : (backTo pos (starEach [] X.env)).any (·.1) = false := by rfl) (hdb : (x == ("__debug__" : Str)) = false := by decide) :
    PS X (.Raise (some (.Call (.Name x p) [e] [] pos)) none pos2) (tRaiseE K C W te) := by
  subst hK
  obtain ⟨ht, fd, F, hb⟩ := hI
  exact ps_raise hc tk (pmk_oex (pos := pos) (p := p) (dvs := []) M.c M.i ht F hr hb .nil (fun _ _ _ _ _ _ _ z => z.elim) hg M.g (pa_cons he pa_nil hs) hdb hs hpl) (pos := pos2)
theorem rd_raiseE {K : PySem.W.Frag} {C : Addr} {te : TE} {D : Ends} {σ : St} {H : Hp} (h : te σ H fun v H1 => RaiseAt K C W σ v H1) : tRaiseE K C W te D σ H := h
theorem exd_ne_exo {a d C : Addr} {o : Option Addr} {fs : List (Str × V)} : True := trivial
theorem u_raise {K : PySem.W.Frag} {C : Addr} {σ : St} {v : V} {H : Hp} (c : OexC K C) (n : PySem.W.findIn K (.ref C) "what" = some none) (h : ∀ d, H d = none → W (.ref C) (some d) σ (upd H d (.xd [("what", v)]))) : RaiseAt K C W σ v H := by
  refine ⟨by show 1 ≤ 1000; decide, fun a ha => ⟨a, C, v, rfl, c, n, upd_same, fun dx hdx hne => ⟨rfl, dx, [("what", v)], ?_, ?_, ?_, ?_⟩⟩⟩
  · exact upd_same
  · rw [upd_ne hne, upd_same]
  · rw [upd_ne hne] at hdx; exact hdx
  · have hd : H dx = none := by rw [upd_ne hne] at hdx; exact hdx
    have e : upd (del (upd (upd (upd H a (exo a C none)) dx (exd dx [("what", v)])) a (exo a C (some dx))) a) dx (.xd [("what", v)]) = upd H dx (.xd [("what", v)]) := by
      funext b
      by_cases h1 : b = dx
      · subst h1; rw [upd_same, upd_same]
      · rw [upd_ne h1, upd_ne h1]
        by_cases h2 : b = a
        · subst h2; rw [del_same, ha]
        · rw [del_ne h2, upd_ne h2, upd_ne h1, upd_ne h2]
    rw [e]
    exact h dx hd
end
/-- what leaves a def that may raise -/
theorem tkX {P : Program} {w : World} {K : PySem.W.Frag} {mg : Str → Option Value} {base : Heap} {N : List Str} {qual : Str} {scope : Scope} {f : Addr} {cd : Value} {A : Around} {outer : List Env} {s : Shared} {H : Hp} {E : XK} :
    Takes (cxOf (L2.CX P w) P w K mg base N qual scope f cd A outer s H E) (fun cls d _ H' => E cls d H') := takes_of rfl rfl rfl rfl
theorem poX {P : Program} {w : World} {K : PySem.W.Frag} {mg : Str → Option Value} {base : Heap} {N : List Str} {qual : Str} {scope : Scope} {f : Addr} {cd : Value} {A : Around} {outer : List Env} {s : Shared} {H : Hp} {E : XK} :
    PassesOwn (model P w) (cxOf (L2.CX P w) P w K mg base N qual scope f cd A outer s H E).A (cxOf (L2.CX P w) P w K mg base N qual scope f cd A outer s H E).env (cxOf (L2.CX P w) P w K mg base N qual scope f cd A outer s H E).xe := passes_of (X := cxOf (L2.CX P w) P w K mg base N qual scope f cd A outer s H E) rfl
/-! ## a dict of the module, text keys -/
/-- at x: a dict that tells g of a text -/
structure Tab (w : World) (K : PySem.W.Frag) (mg : Str → Option Value) (x : Str) (a : Addr) (g : Str → Option Value) : Prop where
  m : mg x = some (.ref a)
  d : ∃ es n, KDict K w a es n
  t : ∀ z, PySem.W.nsIn K a z = some (g z)
section
variable {X : Cx}
def rInD (a : Addr) (g : Str → Option Value) : R2 := fun x y H Q => ∃ z, x = .str z ∧ y = .ref a ∧ Q (.bl (g z).isSome) H
def rNotInD (a : Addr) (g : Str → Option Value) : R2 := fun x y H Q => ∃ z, x = .str z ∧ y = .ref a ∧ Q (.bl (!(g z).isSome)) H
theorem op_inD {x : Str} {a : Addr} {g : Str → Option Value} (T : Tab X.w X.K X.mg x a g) : OpR X (compareOp .In) (rInD a g) := by
  obtain ⟨es, n, D⟩ := T.d
  intro pins s σ H u y v v2 Q I rx ry h
  obtain ⟨z, rfl, rfl, q⟩ := h
  exact op_in_kd D pins s σ H _ _ v v2 Q I rx ry ⟨z, _, rfl, rfl, T.t z, q⟩
theorem op_notInD {x : Str} {a : Addr} {g : Str → Option Value} (T : Tab X.w X.K X.mg x a g) : OpR X (compareOp .NotIn) (rNotInD a g) := by
  obtain ⟨es, n, D⟩ := T.d
  intro pins s σ H u y v v2 Q I rx ry h
  obtain ⟨z, rfl, rfl, q⟩ := h
  exact op_notIn_kd D pins s σ H _ _ v v2 Q I rx ry ⟨z, _, rfl, rfl, T.t z, q⟩
def rIxT' (a : Addr) (g : Str → Option Value) : R2 := fun x y H Q => ∃ z u v, x = .ref a ∧ y = .str z ∧ g z = some u ∧ RelV v u ∧ Q v H
theorem ix_tab {x : Str} {a : Addr} {g : Str → Option Value} (T : Tab X.w X.K X.mg x a g) : IxR X (rIxT' a g) := by
  obtain ⟨es, n, D⟩ := T.d
  intro value slice pins s σ H u y v v2 Q I rx ry h hs
  obtain ⟨z, u0, v0, rfl, rfl, e, r, q⟩ := h
  exact ix_kdict value slice pins s σ H _ _ v v2 Q I rx ry ⟨a, z, v0, rfl, rfl, ⟨es, n, u0, D.at_, D.lit, by rw [T.t z, e], r⟩, q⟩ hs
theorem u_inD {a : Addr} {g : Str → Option Value} {z : Str} {H : Hp} {Q : VK} (h : Q (.bl (g z).isSome) H) : rInD a g (.str z) (.ref a) H Q := ⟨z, rfl, rfl, h⟩
theorem u_notInD {a : Addr} {g : Str → Option Value} {z : Str} {H : Hp} {Q : VK} (h : Q (.bl (!(g z).isSome)) H) : rNotInD a g (.str z) (.ref a) H Q := ⟨z, rfl, rfl, h⟩
theorem u_ixTab {a : Addr} {g : Str → Option Value} {z : Str} {u : Value} {v : V} {H : Hp} {Q : VK} (e : g z = some u) (r : RelV v u) (h : Q v H) : rIxT' a g (.ref a) (.str z) H Q := ⟨z, u, v, rfl, rfl, e, r, h⟩
/-- the call of a def that a local name holds -/
def tCallV (P : Program) (w : World) (K : PySem.W.Frag) (mg : Str → Option Value) (base : Heap) (k : Nat) (i : Nat) (t : TA) : TE := fun σ H Q => ∃ f sp, σ[i]? = some (some (.ref f)) ∧ Held P w K mg base k f sp ∧ t σ H fun vs H1 => sp vs H1 Q E0
theorem pe_callV {P : Program} {w : World} {K : PySem.W.Frag} {mg : Str → Option Value} {base : Heap} {k i : Nat} {x : Str} {p pos : Pos} {e : Expr} {es : List Expr} {t : TA} (h1 : X.prog = P) (h2 : X.w = w) (h3 : X.K = K) (h4 : X.mg = mg) (h5 : X.base = base) (hr : Room k X.A) (hN : X.N[i]? = some x) (hv : Vis X.env.scope x) (ha : PA X (e :: es) t)
    (hdb : (x == ("__debug__" : Str)) = false := by decide) (hcd : (x == ("__classdict__" : Str)) = false := by decide)
    (he : starEach (e :: es) X.env = (false, eval e X.env) :: starEach es X.env := by rfl) (hpl : (backTo pos (starEach es X.env)).any (·.1) = false := by rfl) : PE X (.Call (.Name x p) (e :: es) [] pos) (tCallV P w K mg base k i t) := by
  subst h1 h2 h3 h4 h5
  refine ⟨fun pins s σ H Q I h => ?_⟩
  obtain ⟨f, sp, hs, hH, ht⟩ := h
  obtain ⟨fd, ps, F, hk, hb⟩ := hH.ex
  refine (pe_callL (i := i) (f := f) (sp := sp) (dvs := []) (E := fun _ _ _ => False) F hr hN hv hk hb .nil (fun _ _ _ _ _ _ _ z => z.elim) ha hdb hcd he hpl).run pins s σ H Q I ⟨hs, ?_⟩
  have e0 : (fun (vs : List V) (H1 : Hp) => sp (vs ++ []) H1 Q (fun _ _ _ => False)) = fun vs H1 => sp vs H1 Q E0 := by
    funext vs H1; rw [List.append_nil]
  show t σ H (fun vs H1 => sp (vs ++ []) H1 Q (fun _ _ _ => False))
  rw [e0]
  exact ht
theorem rd_callV {P : Program} {w : World} {K : PySem.W.Frag} {mg : Str → Option Value} {base : Heap} {k i : Nat} {t : TA} {σ : St} {H : Hp} {Q : VK} {f : Addr} {sp : Sp} (e : σ[i]? = some (some (.ref f))) (hH : Held P w K mg base k f sp) (h : t σ H fun vs H1 => sp vs H1 Q E0) : tCallV P w K mg base k i t σ H Q := ⟨f, sp, e, hH, h⟩
theorem HasF.held {P : Program} {w : World} {K : PySem.W.Frag} {mg : Str → Option Value} {base : Heap} {k : Nat} {x : Str} {ps : List Str} {sp : Sp} (h : HasF P w K mg base CX0 k x ps sp) : ∃ f, mg x = some (.ref f) ∧ Held P w K mg base k f sp := by
  obtain ⟨f, fd, F, m, kp, b⟩ := h
  exact ⟨f, m, ⟨fd, ps, F, kp, b⟩⟩
theorem u_inS {K : PySem.W.Frag} {c : Nat} {z : Str} {H : Hp} {Q : VK} (h : Q (.bl (decide (c ∈ z.cps.toList))) H) : rInU K (.str ⟨#[c]⟩) (.str z) H Q := .inr ⟨c, z, rfl, rfl, h⟩
theorem u_notInS {K : PySem.W.Frag} {c : Nat} {z : Str} {H : Hp} {Q : VK} (h : Q (.bl (!decide (c ∈ z.cps.toList))) H) : rNotInU K (.str ⟨#[c]⟩) (.str z) H Q := .inr ⟨c, z, rfl, rfl, h⟩
end
section
variable {K : PySem.W.Frag} {H : Hp} {xs : List V} {ds : List PyData}
theorem Rps.none (h : Rps K H xs ds) (l : (xs.length : Int) = 0) : xs = [] ∧ ds = [] := by
  cases h with
  | nil => exact ⟨rfl, rfl⟩
  | cons a r => rw [List.length_cons] at l; omega
theorem Rps.only (h : Rps K H xs ds) (l : (xs.length : Int) = 1) : ∃ x d, xs = [x] ∧ ds = [d] ∧ Rp K H x d := by
  cases h with
  | nil => cases l
  | cons a r =>
    cases r with
    | nil => exact ⟨_, _, rfl, rfl, a⟩
    | cons b r => rw [List.length_cons, List.length_cons] at l; omega
theorem Rps.pair (h : Rps K H xs ds) (l : (xs.length : Int) = 2) : ∃ x y d e, xs = [x, y] ∧ ds = [d, e] ∧ Rp K H x d ∧ Rp K H y e := by
  cases h with
  | nil => cases l
  | cons a r =>
    cases r with
    | nil => cases l
    | cons b r =>
      cases r with
      | nil => exact ⟨_, _, _, _, rfl, rfl, a, b⟩
      | cons c r => rw [List.length_cons, List.length_cons, List.length_cons] at l; omega
theorem Rps.three (h : Rps K H xs ds) (l : (xs.length : Int) = 3) : ∃ x y z d e f, xs = [x, y, z] ∧ ds = [d, e, f] ∧ Rp K H x d ∧ Rp K H y e ∧ Rp K H z f := by
  cases h with
  | nil => cases l
  | cons a r =>
    cases r with
    | nil => cases l
    | cons b r =>
      cases r with
      | nil => cases l
      | cons c r =>
        cases r with
        | nil => exact ⟨_, _, _, _, _, _, rfl, rfl, a, b, c⟩
        | cons c2 r => rw [List.length_cons, List.length_cons, List.length_cons, List.length_cons] at l; omega
end
end Mine
namespace Mine
open PySem PySem.Spec L2
section
variable {σ : St} {H : Hp} {Q : VK} {te : TE}
theorem rd_retE {n bk ct : St → Hp → Prop} {rt : VK} {o : Option Nat} (h : te σ H rt) : tRet te (endsAt ⟨n, rt, bk, ct⟩ o) σ H := by cases o <;> exact h
theorem rd_xf {a C : Addr} {cls : Value} {d : Option Addr} {f : Str} (h : te σ H fun x H1 => x = .ref a ∧ cls = .ref C ∧ ∃ (dd : Addr) (fs : List (Str × V)) (v : V), d = some dd ∧ H1 dd = some (.xd fs) ∧ fs.lookup f = some v ∧ Q v H1) : tXf a cls d C f te σ H Q := h
theorem u_xf {a C dd : Addr} {cls : Value} {v : V} {R : V → Prop} (ec : cls = .ref C) (e : H dd = some (.xd [("what", v)])) (h : R v) : V.ref a = .ref a ∧ cls = .ref C ∧ ∃ (dd' : Addr) (fs : List (Str × V)) (v' : V), some dd = some dd' ∧ H dd' = some (.xd fs) ∧ fs.lookup ("what" : Str) = some v' ∧ R v' :=
  ⟨rfl, ec, dd, [("what", v)], v, rfl, e, by simp [List.lookup], h⟩
end
end Mine

/-! ### Kit8 -/
namespace Mine
open PySem PySem.Spec L2
section
variable {X : Cx}
/-! ## == and != of numbers, texts, data of any depth below 200 -/
def rEqG (K : PySem.W.Frag) : R2 := fun x y H Q => (scal x y = true ∧ Q (.bl (decide (x = y))) H) ∨
  ∃ d e, Dp K H x d ∧ Dp K H y e ∧ d.canLay0 = true ∧ e.canLay0 = true ∧ min d.depth e.depth ≤ 199 ∧ Q (.bl (PyData.eqv d e)) H
def rNeG (K : PySem.W.Frag) : R2 := fun x y H Q => (scal x y = true ∧ Q (.bl (!decide (x = y))) H) ∨
  ∃ d e, Dp K H x d ∧ Dp K H y e ∧ d.canLay0 = true ∧ e.canLay0 = true ∧ min d.depth e.depth ≤ 199 ∧ Q (.bl (!PyData.eqv d e)) H
theorem hU {k : Nat} {A : Around} (r : Room k A) : A.units + 200 < cLine := by have := r.un; omega
theorem kEqG (K : PySem.W.Frag) (hu : X.A.units + 200 < cLine) (h : X.K = K := by rfl) : OpR X (compareOp .Eq) (rEqG K) := by
  subst h
  refine op_eq.or ?_
  intro pins s σ H x y v u Q I rx ry h
  obtain ⟨d, e, hd, he, sd, se, dd, q⟩ := h
  obtain ⟨as, r1⟩ := Dp.reads I d x v hd rx
  obtain ⟨bs, r2⟩ := Dp.reads I e y u he ry
  exact SeqAt.compareEq_reads r1 r2 sd se (by omega) ⟨.bl _, H, I, rfl, q⟩
theorem kNeG (K : PySem.W.Frag) (hu : X.A.units + 200 < cLine) (h : X.K = K := by rfl) : OpR X (compareOp .NotEq) (rNeG K) := by
  subst h
  refine op_ne.or ?_
  intro pins s σ H x y v u Q I rx ry h
  obtain ⟨d, e, hd, he, sd, se, dd, q⟩ := h
  obtain ⟨as, r1⟩ := Dp.reads I d x v hd rx
  obtain ⟨bs, r2⟩ := Dp.reads I e y u he ry
  exact SeqAt.compareNe_reads r1 r2 sd se (by omega) ⟨.bl _, H, I, rfl, q⟩
end
section
variable {K : PySem.W.Frag} {H : Hp} {Q : VK} {i j : Int} {z z' : Str} {x y : V} {d e : PyData} {a : Addr} {xs : List V}
theorem dV_int : decide (V.int i = V.int j) = decide (i = j) := by
  by_cases c : i = j
  · rw [decide_eq_true c, decide_eq_true (congrArg V.int c)]
  · rw [decide_eq_false c, decide_eq_false (fun q => c (V.int.inj q))]
theorem dV_str : decide (V.str z = V.str z') = decide (z = z') := by
  by_cases c : z = z'
  · rw [decide_eq_true c, decide_eq_true (congrArg V.str c)]
  · rw [decide_eq_false c, decide_eq_false (fun q => c (V.str.inj q))]
theorem dV_bl {x y : Bool} : decide (V.bl x = V.bl y) = decide (x = y) := by cases x <;> cases y <;> rfl
theorem g_eqI (h : Q (.bl (decide (i = j))) H) : rEqG K (.int i) (.int j) H Q := .inl ⟨rfl, by rw [dV_int]; exact h⟩
theorem g_eqS (h : Q (.bl (decide (z = z'))) H) : rEqG K (.str z) (.str z') H Q := .inl ⟨rfl, by rw [dV_str]; exact h⟩
theorem g_neI (h : Q (.bl (!decide (i = j))) H) : rNeG K (.int i) (.int j) H Q := .inl ⟨rfl, by rw [dV_int]; exact h⟩
theorem g_neS (h : Q (.bl (!decide (z = z'))) H) : rNeG K (.str z) (.str z') H Q := .inl ⟨rfl, by rw [dV_str]; exact h⟩
theorem g_neB {x y : Bool} (h : Q (.bl (!decide (x = y))) H) : rNeG K (.bl x) (.bl y) H Q := .inl ⟨rfl, by rw [dV_bl]; exact h⟩
theorem g_eqD (hx : Dp K H x d) (hy : Dp K H y e) (c1 : d.canLay0 = true) (c2 : e.canLay0 = true) (dd : min d.depth e.depth ≤ 199) (h : Q (.bl (PyData.eqv d e)) H) : rEqG K x y H Q := .inr ⟨d, e, hx, hy, c1, c2, dd, h⟩
theorem g_neD (hx : Dp K H x d) (hy : Dp K H y e) (c1 : d.canLay0 = true) (c2 : e.canLay0 = true) (dd : min d.depth e.depth ≤ 199) (h : Q (.bl (!PyData.eqv d e)) H) : rNeG K x y H Q := .inr ⟨d, e, hx, hy, c1, c2, dd, h⟩
theorem u_inL (s : SqL K H a xs) (fx : flatV x = true) (fxs : xs.all flatV = true) (h : Q (.bl (inV x xs)) H) : rInU K x (.ref a) H Q := .inl ⟨a, xs, rfl, .inl s, fx, fxs, h⟩
theorem u_inT (s : SqT K H a xs) (fx : flatV x = true) (fxs : xs.all flatV = true) (h : Q (.bl (inV x xs)) H) : rInU K x (.ref a) H Q := .inl ⟨a, xs, rfl, .inr s, fx, fxs, h⟩
end
/-! ## data -/
def okS (z : Str) : Prop := z.length ≤ 1000 ∧ PyData.canLay0 (.str z) = true
mutual
def dat : PyData → Prop
  | .none => True
  | .int _ => True
  | .str z => okS z
  | .tuple ds => ds.length ≤ 1000 ∧ dats ds
  | _ => False
def dats : List PyData → Prop
  | [] => True
  | d :: r => dat d ∧ dats r
end
mutual
theorem dat_lay : ∀ d : PyData, dat d → d.canLay0 = true
  | .none, _ => by simp only [PyData.canLay0]
  | .int _, _ => by simp only [PyData.canLay0]
  | .str z, h => by
    have h' : okS z := by simpa only [dat] using h
    exact h'.2
  | .tuple ds, h => by
    have h' : ds.length ≤ 1000 ∧ dats ds := by simpa only [dat] using h
    simp only [PyData.canLay0]
    exact dats_lay ds h'.2
  | .bool _, h => by simp only [dat] at h
  | .list _, h => by simp only [dat] at h
  | .dict _, h => by simp only [dat] at h
theorem dats_lay : ∀ ds : List PyData, dats ds → PyData.canLayAll0 ds = true
  | [], _ => by simp only [PyData.canLayAll0]
  | d :: r, h => by
    have h' : dat d ∧ dats r := by simpa only [dats] using h
    simp only [PyData.canLayAll0, dat_lay d h'.1, dats_lay r h'.2, Bool.and_self]
end
mutual
theorem eqv_same : ∀ d : PyData, dat d → PyData.eqv d d = true
  | .none, _ => by simp [PyData.eqv]
  | .int _, _ => by simp [PyData.eqv]
  | .str z, _ => by simp [PyData.eqv]
  | .tuple ds, h => by
    have h' : ds.length ≤ 1000 ∧ dats ds := by simpa only [dat] using h
    simp only [PyData.eqv]
    exact eqvs_same ds h'.2
  | .bool _, h => by simp only [dat] at h
  | .list _, h => by simp only [dat] at h
  | .dict _, h => by simp only [dat] at h
theorem eqvs_same : ∀ ds : List PyData, dats ds → PyData.eqvAll ds ds = true
  | [], _ => by simp [PyData.eqvAll]
  | d :: r, h => by
    have h' : dat d ∧ dats r := by simpa only [dats] using h
    simp only [PyData.eqvAll, eqv_same d h'.1, eqvs_same r h'.2, Bool.and_self]
end
end Mine

/-! ### Kit9 -/
/-! ## enumerate of a tuple -/
namespace HE
open PySem PySem.Spec PyProof.Rows L2
/-- one argument, whatever begins -/
theorem meets1 {v : Value} {ob : Obj} {Hb : Heap → Prop} (bg : Begins v ob Hb) : Meets (Builtin.«enumerate.__new__» ⟨[.type "enumerate", v], []⟩) (fun _ Z st => Hb st.heap ∧
    Z (.ok (.ret (.ref (st.heap.push ob).objs.size))) { st with heap := (st.heap.push ob).push { cls := .type "enumerate", data := .fields #[.none, .bool false, .ref st.heap.objs.size, rawInt 0, .none, .none] } }) := by
  refine .of_wp fun pr w2 A2 Z st hst => ?_
  obtain ⟨h0, gg, dd, tt, oo⟩ := st
  obtain ⟨hb, hst⟩ := hst
  have hs1 := sub_enumerate
  have it1 : ∀ {B : Around} {E2 : Value → Shared → Prop} {Q2 : Value → Shared → Prop}, Q2 (.ref h0.objs.size) ⟨h0.push ob, gg, dd, tt, oo⟩ → wpAny (model pr w2) B (pyIter v) Q2 E2 ⟨h0, gg, dd, tt, oo⟩ :=
    fun q2 => bg.iter pr w2 _ _ ⟨h0, gg, dd, tt, oo⟩ _ hb q2
  wp_walk using it1
  refine wpAny_stack_any fun sta => wpAny_pure ?_
  split
  · rename_i cc _ _ _ _ _
    cases (cc == Value.type "enumerate") <;> (wp_walk using it1; exact ⟨_, rfl, hst⟩)
  · wp_walk using it1; exact ⟨_, rfl, hst⟩
section
variable {prog : Program} {w : World} {A : Around} {E : Value → Shared → Prop} {s : Shared}
theorem call1 {a : Addr} {its : Array Value} {Q : Value → Shared → Prop} (ht : s.heap.IsTuple a its)
    (k : ∀ h2, IsEnum h2 (s.heap.objs.size + 1) s.heap.objs.size 0 .none → h2.IsTupleIter s.heap.objs.size a 0 → (∀ c u, s.heap.get? c = some u → h2.get? c = some u) → Q (.ref (s.heap.objs.size + 1)) { s with heap := h2 }) :
    wpAny (model prog w) A (call (.type "enumerate") [.ref a]) Q E s := by
  have bg := begins_tuple a its
  refine callType_new F.called_enumerate (by decide) (F.typeCall_enumerate_1 _) (F.newCall_enumerate_1 _) (fun ob => F.args_object_init_2 ob _) F.entry_enumerate_new (meets1 bg) ⟨ht, ?_⟩
  have sz : (s.heap.push ({ cls := .type "tuple_iterator", data := .fields #[.ref a, .int 0 0] } : Obj)).objs.size = s.heap.objs.size + 1 := Heap.size_push ..
  show _ ∧ _
  rw [sz]
  have en := Heap.get?_push_size (s.heap.push ({ cls := .type "tuple_iterator", data := .fields #[.ref a, .int 0 0] } : Obj)) (o := { cls := .type "enumerate", data := .fields #[.none, .bool false, .ref s.heap.objs.size, rawInt 0, .none, .none] }) rfl
  rw [sz] at en
  exact ⟨⟨_, en, rfl⟩, k _ en ⟨_, Heap.get?_push_of_some _ (Heap.get?_push_size _ rfl), rfl, rfl⟩ fun c u x => Heap.get?_push_of_some _ (Heap.get?_push_of_some _ x)⟩
end
/-- the tuple at a, each item in a new pair -/
def IteT (K : PySem.W.Frag) (a : Addr) : It where
  go := fun i H => ∃ (xs : List V) (x : V), SqT K H a xs ∧ xs[i]? = some x
  yld := fun i H v H' => ∃ t x, v = .ref t ∧ H t = none ∧ H' = upd H t (.tup [.int (i : Nat), x]) ∧ ∀ xs, SqT K H a xs → xs[i]? = some x
  stop := fun i H => ∃ xs : List V, SqT K H a xs ∧ xs.length ≤ i
theorem apartT {h : Heap} {a it : Addr} {i : Nat} {its : Array Value} (ht : h.IsTuple a its) (hi : h.IsTupleIter it a i) : a ≠ it := fun z => by
  obtain ⟨o, e, _, n, d⟩ := ht
  obtain ⟨o2, e2, _, d2⟩ := hi
  rw [z, e2] at e
  cases e
  rw [d2] at d
  cases d
theorem apartE {h : Heap} {a e it : Addr} {i : Int} {old : Value} {its : Array Value} (ht : h.IsTuple a its) (he : IsEnum h e it i old) : e ≠ a := fun z => by
  obtain ⟨o, q, _, n, d⟩ := ht
  rw [← z] at q
  have q2 : h.get? e = some _ := he
  rw [q2] at q
  cases q
  cases d
theorem turn_enT {P : Program} {w : World} {K : PySem.W.Frag} {elts : List Expr} {kk : Nat} {tpos : Pos} (a e it : Addr) :
    Turn P w K (.Tuple elts kk tpos) (IteT K a) [e, it] e (fun i h => (∃ old, IsEnum h e it ((i : Nat) : Int) old) ∧ h.IsTupleIter it a i ∧ e ≠ it) := by
  refine ⟨by simp, fun i h st b hb => ?_, fun i h h' st k => ?_, ?_, ?_, fun A i s Q E st h => ?_⟩
  · obtain ⟨⟨old, he⟩, ⟨o, ho, hc, hd⟩, _⟩ := st
    rcases (by simpa using hb : b = e ∨ b = it) with rfl | rfl
    · exact ⟨_, he, fun v q => nomatch q⟩
    · exact ⟨o, ho, fun v q => by rw [hd] at q; cases q⟩
  · obtain ⟨⟨old, he⟩, hi, hne⟩ := st
    exact ⟨⟨old, k e (by simp) _ he⟩, hi.at fun o q => k it (by simp) o q, hne⟩
  · intro X hP hw hK hc i pins s σ H E I hf st hg
    subst hP hw hK
    obtain ⟨⟨old, he⟩, hit, hne⟩ := st
    obtain ⟨xs, x, hq, hx⟩ := hg
    obtain ⟨its, rv, p, hz⟩ := I.tuple hq
    have p2 : s.heap.IsTuple a its.toArray := p
    obtain ⟨u, hu, ru⟩ := rv.get hx
    have hu2 : its.toArray[i]? = some u := by simpa using hu
    have hel : e < s.heap.objs.size := Heap.lt_size he
    have hil : it < s.heap.objs.size := by obtain ⟨_, q, _⟩ := hit; exact Heap.lt_size q
    have dr := Draws.tuple (prog := X.prog) (w := X.w) (A := X.A.in1) (I.ok.hd hc) it a (apartT p2 hit) its.toArray
    refine wpAny_pyNext_enum_itemD dr he ⟨hit, p2⟩ (by rcases Nat.lt_or_ge i its.toArray.size with g | g; exact g; rw [Array.getElem?_eq_none g] at hu2; cases hu2) hne (fun m => by rcases (by simpa using m : e = it ∨ e = a) with z | z; exact hne z; exact apartE p2 he z) fun u' h2 tk hu' out st2 hT hsz hk => ?_
    have eu : u' = u := Option.some.inj (hu'.symm.trans hu2)
    subst eu
    refine ⟨_, rfl, wpAny_letOwnedTupleGo_enum (s := { s with heap := h2, toks := tk + 1 }) out fun h3 he3 sb => ?_⟩
    have hT3 := (sb.2 _ (Nat.ne_of_gt hel)).trans hT
    have new : ObjOk X.prog X.w (upd H s.heap.objs.size (.tup [.int (i : Nat), x])) h3 s.heap.objs.size (.tup [.int (i : Nat), x]) :=
      ⟨(by decide : 2 ≤ sizeLine), [.int i tk, u'], .cons ⟨_, rfl⟩ (.cons ru .nil), ⟨_, hT3, rfl, _, rfl⟩⟩
    have I2 : Inv X pins σ (upd H s.heap.objs.size (.tup [.int (i : Nat), x])) { s with heap := h3, toks := tk + 1 } :=
      I.turnedNew (ch := [e, it]) (fun b ob hb q => (sb.2 b (fun z => hb (by simp [z]))).trans (hk b ob (fun z => hb (by simp [z])) (fun z => hb (by simp [z])) q)) hf (Nat.le_refl _) new
    refine ⟨.ref s.heap.objs.size, _, I2, rfl, ⟨_, x, rfl, I.hok.fresh (Nat.le_refl _), rfl, fun ys hy => by rw [I.tuple_inj hy hq]; exact hx⟩, ⟨⟨u', ?_⟩, st2.1.at fun o q => (sb.2 it (Ne.symm hne)).trans q, hne⟩, fun b hb => ?_⟩
    · rw [show ((i + 1 : Nat) : Int) = (i : Int) + 1 from by omega]; exact he3
    · have lt : b < s.heap.objs.size := by rcases (by simpa using hb : b = e ∨ b = it) with rfl | rfl <;> assumption
      rw [upd_ne (Nat.ne_of_lt lt)]
      exact (hf b hb).1
  · intro X hP hw hK hc i pins s σ H E I hf st hg
    subst hP hw hK
    obtain ⟨⟨old, he⟩, hit, hne⟩ := st
    obtain ⟨xs, hq, hx⟩ := hg
    obtain ⟨its, rv, p, hz⟩ := I.tuple hq
    have p2 : s.heap.IsTuple a its.toArray := p
    obtain ⟨f0, f1, f2, f3, f4, f5⟩ := hf it (by simp)
    have hl := rv.length
    unfold pyNext
    refine wpAny_bind (wpAny_attempt (wpAny_callSpecial?_slot (name := Str.ofString "__next__") (⟨_, he, rfl⟩ : s.TypeIs (.ref e) "enumerate") F.slot_enumerate_next
      (wpAny_call_entry F.slot_enumerate_next ⟨_, he, rfl⟩ F.entry_enumerate_next ?_ (F.args_enumerate_next_1 _))))
    show wpAny _ _ (field (.ref e) 2 >>= _) _ _ _
    refine wpAny_bind (wpAny_field he rfl (x := .ref it) rfl ?_)
    refine wpAny_bind (wpAny_nextOf_tuple_end (I.ok.hd hc) hit p2 (by simp; omega) fun h2 y eb hy => ?_)
    obtain ⟨o, ho, hc2⟩ := hy
    refine wpAny_bind (wpAny_isInstance (T := "StopIteration") (b := true) ⟨o, ho, hc2⟩ isSubtype_stop (wpAny_pure ?_))
    exact ⟨rfl, I.turned (t' := s.toks) (fun b o hb q => eb b o hb q) f0 f1 f3 f4 f5⟩
  · obtain ⟨⟨_, he⟩, _⟩ := st
    exact wpAny_pyIter_enum he h
/-- what enumerate walks: a list or a tuple -/
def iEnA (K : PySem.W.Frag) (ta : TA) : TI := fun σ H R => ta σ H fun vs H1 => ∃ a xs, vs = [.ref a] ∧ ((SqL K H1 a xs ∧ R (Ite K a) H1) ∨ (SqT K H1 a xs ∧ R (IteT K a) H1))
theorem pi_enA {X : Cx} {e : Expr} {ta : TA} {p pos tpos : Pos} {elts : List Expr} {kk : Nat} (hg : Gl X "enumerate") (hm : X.mg "enumerate" = none) (ha : PA X [e] ta) (hs : starEach [e] X.env = [(false, eval e X.env)] := by rfl) :
    PI X (.Tuple elts kk tpos) (.Call (.Name "enumerate" p) [e] [] pos) (iEnA X.K ta) := by
  refine ⟨fun pins s σ H R I h => ?_⟩
  refine Call_ (ld_blt I hg hm boot_enumerate (PyProof.Rows.callWith_type1 (thn (ha.run pos pins s σ H _ I h) fun us s1 ⟨vs, H1, I1, r1, q1⟩ => ?_) hs rfl))
  obtain ⟨a, xs, ex, q1⟩ := q1
  subst ex
  obtain _ | ⟨ru, rn⟩ := r1
  cases rn
  cases ru
  have fp : ∀ b ∈ [s1.heap.objs.size + 1, s1.heap.objs.size], FpOk X pins H1 b := fun b hb => by
    have le : s1.heap.objs.size ≤ b := by rcases (by simpa using hb : b = s1.heap.objs.size + 1 ∨ b = s1.heap.objs.size) with rfl | rfl <;> omega
    exact I1.fpOk le (I1.hok.fresh le)
  rcases q1 with ⟨hq, q⟩ | ⟨hq, q⟩
  · obtain ⟨its, rv, pl, hz⟩ := I1.list hq
    refine call_enumerate_list pl.isList fun h' he hit hsz hk => wpAny_pyIter_enum he ?_
    exact ⟨s1.heap.objs.size + 1, [s1.heap.objs.size + 1, s1.heap.objs.size], _, _, H1, rfl, I1.kept (t' := s1.toks) hk, turn_enum a _ _, ⟨⟨.none, he⟩, hit, Nat.succ_ne_self _⟩, fp, q⟩
  · obtain ⟨its, rv, pt, hz⟩ := I1.tuple hq
    refine call1 (show s1.heap.IsTuple a its.toArray from pt) fun h' he hit hk => wpAny_pyIter_enum he ?_
    exact ⟨s1.heap.objs.size + 1, [s1.heap.objs.size + 1, s1.heap.objs.size], _, _, H1, rfl, I1.kept (t' := s1.toks) hk, turn_enT a _ _, ⟨⟨.none, he⟩, hit, Nat.succ_ne_self _⟩, fp, q⟩
/-- a loop over enumerate of a tuple -/
theorem forET {K : PySem.W.Frag} {a : Addr} {xs : List V} {g : TG} {tb : TS} {n : L2.St → Hp → Prop} {rt : VK} {σ : L2.St} {H : Hp} (Pv : Nat → L2.St → Hp → Prop) (h0 : Pv 0 σ H) (hq : ∀ i σ H, i ≤ xs.length → Pv i σ H → SqT K H a xs)
    (hs : ∀ (i : Nat) (x : V) (t : Addr) (σ : L2.St) (H : Hp), xs[i]? = some x → Pv i σ H → H t = none → g (.ref t) σ (upd H t (.tup [.int (i : Nat), x])) fun σ2 H2 => tb ⟨Pv (i + 1), rt, n, Pv (i + 1)⟩ σ2 H2) (hd : ∀ σ H, Pv xs.length σ H → n σ H) :
    ∃ W : Nat → Nat → L2.St → Hp → Prop, (∃ m, W 0 m σ H) ∧ ∀ i m σ H, W i m σ H →
      ((IteT K a).stop i H ∧ n σ H) ∨ ((IteT K a).go i H ∧ ∃ N : L2.St → Hp → Prop, (∀ σ' H', N σ' H' → ∃ m', m' < m ∧ W (i + 1) m' σ' H') ∧ ∀ v H', (IteT K a).yld i H v H' → g v σ H' fun σ2 H2 => tb ⟨N, rt, n, N⟩ σ2 H2) := by
  refine ⟨fun i m σ H => m = xs.length - i ∧ i ≤ xs.length ∧ Pv i σ H, ⟨xs.length, by simp, Nat.zero_le _, h0⟩, ?_⟩
  rintro i m σ H ⟨rfl, hi, pv⟩
  have sq := hq i σ H hi pv
  rcases Nat.lt_or_ge i xs.length with hl | hl
  · refine .inr ⟨⟨xs, _, sq, List.getElem?_eq_getElem hl⟩, Pv (i + 1), fun σ' H' p' => ⟨xs.length - (i + 1), by omega, rfl, hl, p'⟩, ?_⟩
    rintro v H' ⟨t, x, rfl, ht, rfl, hx⟩
    exact hs i x t σ H (hx xs sq) pv ht
  · have : i = xs.length := by omega
    subst this
    exact .inl ⟨⟨xs, sq, Nat.le_refl _⟩, hd σ H pv⟩
end HE

/-! ### KitA -/
namespace Mine
open PySem PySem.Spec L2
section
variable {K : PySem.W.Frag} {H : Hp} {Q : VK} {a b : Addr} {xs ys : List V} {lo hi : Option Int}
/-! ## slices and sums of tuples, whatever object stands for them -/
theorem cut_whole (z : HT.sIx xs.length 0 lo = 0 ∧ HT.sIx xs.length xs.length hi = xs.length) : cutV xs lo hi = xs := by
  unfold cutV
  rw [z.1, z.2]
  simp
theorem u_slS (ha : SqT K H a xs) (h : ∀ q H', Same H H' → SqT K H' q (cutV xs lo hi) → Q (.ref q) H') : rSlU K (.ref a) lo hi H Q :=
  .inr ⟨a, xs, rfl, ha, fun z => h a H (Same.refl H) (by rw [cut_whole z]; exact ha), fun _ p hp => h p _ (same_new hp _) (SqT.of upd_same)⟩
theorem u_slL (ha : SqL K H a xs) (h : ∀ p, H p = none → Q (.ref p) (upd H p (.lst (cutV xs lo hi)))) : rSlU K (.ref a) lo hi H Q := .inl ⟨a, xs, rfl, ha, h⟩
theorem u_catS (ha : SqT K H a xs) (hb : SqT K H b ys) (l : xs.length + ys.length ≤ sizeLine) (h : ∀ q H', Same H H' → SqT K H' q (xs ++ ys) → Q (.ref q) H') : rAddU K (.ref a) (.ref b) H Q :=
  .inr (.inr (.inr ⟨a, b, xs, ys, rfl, rfl, ha, hb, l, fun z => h b H (Same.refl H) (by rw [z]; exact hb), fun _ z => h a H (Same.refl H) (by rw [z, List.append_nil]; exact ha), fun _ _ p hp => h p _ (same_new hp _) (SqT.of upd_same)⟩))
theorem cut_from (xs : List V) (i : Nat) : cutV xs (some (i : Int)) none = xs.drop i := by
  unfold cutV
  rw [HT.sIx_nat, HT.sIx_none]
  rcases Nat.le_total i xs.length with h | h
  · rw [Nat.min_eq_left h]
    exact List.take_of_length_le (by rw [List.length_drop]; omega)
  · rw [Nat.min_eq_right h, List.drop_of_length_le (Nat.le_refl _), List.drop_of_length_le h]
    simp
theorem cut_to (xs : List V) (j : Nat) : cutV xs none (some (j : Int)) = xs.take j := by
  unfold cutV
  rw [HT.sIx_nat, HT.sIx_none, List.drop_zero, Nat.sub_zero]
  rcases Nat.le_total j xs.length with h | h
  · rw [Nat.min_eq_left h]
  · rw [Nat.min_eq_right h, List.take_of_length_le (Nat.le_refl _), List.take_of_length_le h]
theorem cut_mid (xs : List V) (i j : Nat) (h : i ≤ xs.length) (k : j ≤ xs.length) : cutV xs (some (i : Int)) (some (j : Int)) = (xs.drop i).take (j - i) := by
  unfold cutV
  rw [HT.sIx_nat, HT.sIx_nat, Nat.min_eq_left h, Nat.min_eq_left k]
end
/-! ## enumerate of a list or a tuple -/
section
variable {X : Cx} (K : PySem.W.Frag) {e : Expr} {ta : TA}
theorem pi_enAK {p pos tpos : Pos} {elts : List Expr} {kk : Nat} (hg : Gl X "enumerate") (hm : X.mg "enumerate" = none) (ha : PA X [e] ta) (h : X.K = K := by rfl) (hs : starEach [e] X.env = [(false, eval e X.env)] := by rfl) :
    PI X (.Tuple elts kk tpos) (.Call (.Name "enumerate" p) [e] [] pos) (HE.iEnA K ta) := by subst h; exact HE.pi_enA hg hm ha hs
end
section
variable {K : PySem.W.Frag} {σ : St} {H : Hp} {ta : TA} {a b : Addr} {xs ys : List V}
theorem rd_enA {R : It → Hp → Prop} (h : ta σ H fun vs H1 => ∃ a xs, vs = [.ref a] ∧ ((SqL K H1 a xs ∧ R (Ite K a) H1) ∨ (SqT K H1 a xs ∧ R (HE.IteT K a) H1))) : HE.iEnA K ta σ H R := h
theorem u_enT {R1 R2 : Addr → Prop} (s : SqT K H a xs) (h : R2 a) : ∃ a' xs', [V.ref a] = [V.ref a'] ∧ ((SqL K H a' xs' ∧ R1 a') ∨ (SqT K H a' xs' ∧ R2 a')) := ⟨a, xs, rfl, .inr ⟨s, h⟩⟩
theorem u_enL {R1 R2 : Addr → Prop} (s : SqL K H a xs) (h : R1 a) : ∃ a' xs', [V.ref a] = [V.ref a'] ∧ ((SqL K H a' xs' ∧ R1 a') ∨ (SqT K H a' xs' ∧ R2 a')) := ⟨a, xs, rfl, .inl ⟨s, h⟩⟩
theorem rd_zip {R : It → Hp → Prop} (h : ta σ H fun vs H1 => ∃ a b xs ys, vs = [.ref a, .ref b] ∧ ((SqL K H1 a xs ∧ SqL K H1 b ys ∧ R (Itz K a b) H1) ∨ (SqT K H1 a xs ∧ SqT K H1 b ys ∧ R (RZ.ItzT K a b) H1))) : RZ.iZipA K ta σ H R := h
theorem u_zipL {R1 R2 : Addr → Addr → Prop} (s : SqL K H a xs) (t : SqL K H b ys) (h : R1 a b) : ∃ a' b' xs' ys', [V.ref a, V.ref b] = [V.ref a', V.ref b'] ∧ ((SqL K H a' xs' ∧ SqL K H b' ys' ∧ R1 a' b') ∨ (SqT K H a' xs' ∧ SqT K H b' ys' ∧ R2 a' b')) := ⟨a, b, xs, ys, rfl, .inl ⟨s, t, h⟩⟩
/-- a loop over zip of two lists of one length -/
theorem forZ {g : TG} {tb : TS} {n : St → Hp → Prop} {rt : VK} (hl : xs.length = ys.length) (Pv : Nat → St → Hp → Prop) (h0 : Pv 0 σ H) (hq : ∀ i σ H, Pv i σ H → SqL K H a xs ∧ SqL K H b ys)
    (hs : ∀ (i : Nat) (x y : V) (T : Addr) (σ : St) (H : Hp), xs[i]? = some x → ys[i]? = some y → Pv i σ H → H T = none → g (.ref T) σ (upd H T (.tup [x, y])) fun σ2 H2 => tb ⟨Pv (i + 1), rt, n, Pv (i + 1)⟩ σ2 H2) (hd : ∀ σ H, Pv xs.length σ H → n σ H) :
    ∃ W : Nat → Nat → St → Hp → Prop, (∃ m, W 0 m σ H) ∧ ∀ i m σ H, W i m σ H →
      ((Itz K a b).stop i H ∧ n σ H) ∨ ((Itz K a b).go i H ∧ ∃ N : St → Hp → Prop, (∀ σ' H', N σ' H' → ∃ m', m' < m ∧ W (i + 1) m' σ' H') ∧ ∀ v H', (Itz K a b).yld i H v H' → g v σ H' fun σ2 H2 => tb ⟨N, rt, n, N⟩ σ2 H2) :=
  RZ.for_zipL (D := ⟨n, rt, fun _ _ => False, fun _ _ => False⟩) hl Pv h0 hq hs hd
/-- a loop over zip of two lists, as long as the shorter -/
theorem forZm {g : TG} {tb : TS} {n : St → Hp → Prop} {rt : VK} {m : Nat} (hm : m = min xs.length ys.length) (Pv : Nat → St → Hp → Prop) (h0 : Pv 0 σ H) (hq : ∀ i σ H, i ≤ m → Pv i σ H → SqL K H a xs ∧ SqL K H b ys)
    (hs : ∀ (i : Nat) (x y : V) (t : Addr) (σ : St) (H : Hp), i < m → xs[i]? = some x → ys[i]? = some y → Pv i σ H → H t = none → g (.ref t) σ (upd H t (.tup [x, y])) fun σ2 H2 => tb ⟨Pv (i + 1), rt, n, Pv (i + 1)⟩ σ2 H2) (hd : ∀ σ H, Pv m σ H → n σ H) :
    ∃ W : Nat → Nat → St → Hp → Prop, (∃ m, W 0 m σ H) ∧ ∀ i m σ H, W i m σ H →
      ((Itz K a b).stop i H ∧ n σ H) ∨ ((Itz K a b).go i H ∧ ∃ N : St → Hp → Prop, (∀ σ' H', N σ' H' → ∃ m', m' < m ∧ W (i + 1) m' σ' H') ∧ ∀ v H', (Itz K a b).yld i H v H' → g v σ H' fun σ2 H2 => tb ⟨N, rt, n, N⟩ σ2 H2) := by
  refine ⟨fun i k σ H => k = m - i ∧ i ≤ m ∧ Pv i σ H, ⟨m, by simp, Nat.zero_le _, h0⟩, ?_⟩
  rintro i k σ H ⟨rfl, hi, pv⟩
  obtain ⟨q1, q2⟩ := hq i σ H hi pv
  rcases Nat.lt_or_ge i m with hl | hl
  · have l1 : i < xs.length := by omega
    have l2 : i < ys.length := by omega
    refine .inr ⟨⟨xs, ys, _, _, q1, q2, List.getElem?_eq_getElem l1, List.getElem?_eq_getElem l2⟩, Pv (i + 1), fun σ' H' p' => ⟨m - (i + 1), by omega, rfl, hl, p'⟩, ?_⟩
    rintro v H' ⟨t, x, y, rfl, ht, rfl, hx, hy⟩
    exact hs i x y t σ H hl (hx xs q1) (hy ys q2) pv ht
  · obtain rfl : i = m := by omega
    exact .inl ⟨⟨xs, ys, q1, q2, by omega⟩, hd σ H pv⟩
/-! ## a comprehension with two for -/
theorem rd_lc2 {wi : TI} {g : TG} {tt : TT} {wi1 : TI} {g1 : TG} {tt1 : TT} {te : TE} {vs vs1 : List Nat} {Q : VK} (h : wi σ H fun J H1 => ∀ D, H1 D = none → ∃ W : Nat → Nat → Hp → Prop, (∃ m, W 0 m (upd H1 D (.lst []))) ∧ ∀ i m H, W i m H →
  (J.stop i H ∧ Q (.ref D) H) ∨ (J.go i H ∧ ∃ Nx : Hp → Prop, (∀ H', Nx H' → ∃ m', m' < m ∧ W (i + 1) m' H') ∧ ∀ x H', J.yld i H x H' → g x (wipe σ vs) H' fun σ2 H2 => wipe σ2 vs = wipe σ vs ∧ tt σ2 H2 fun b H3 =>
    if b = true then wi1 σ2 H3 fun J1 H4 => ∃ W1 : Nat → Nat → Hp → Prop, (∃ m, W1 0 m H4) ∧ ∀ j k H, W1 j k H →
      (J1.stop j H ∧ Nx H) ∨ (J1.go j H ∧ ∃ Nx1 : Hp → Prop, (∀ H', Nx1 H' → ∃ k', k' < k ∧ W1 (j + 1) k' H') ∧ ∀ x H', J1.yld j H x H' → g1 x (wipe σ2 vs1) H' fun σ3 H5 => wipe σ3 vs1 = wipe σ2 vs1 ∧ tt1 σ3 H5 fun b H6 =>
        if b = true then te σ3 H6 fun y H7 => ∃ acc, H7 D = some (.lst acc) ∧ acc.length < sizeLine ∧ Nx1 (upd H7 D (.lst (acc ++ [y]))) else Nx1 H6)
    else Nx H3)) : tLc2 wi g tt wi1 g1 tt1 te vs vs1 σ H Q := h
/-- its outer and its inner walk, both over tuples: BB is what follows the tests -/
theorem lcG {g : TG} {tt : TT} {vs : List Nat} {Qd : Hp → Prop} {BB : (Hp → Prop) → St → Hp → Prop} (Pv : Nat → Hp → Prop) (h0 : Pv 0 H) (hl : ∀ i H, i ≤ xs.length → Pv i H → SqT K H a xs)
    (hs : ∀ i x H, xs[i]? = some x → Pv i H → g x (wipe σ vs) H fun σ2 H2 => wipe σ2 vs = wipe σ vs ∧ tt σ2 H2 fun b H3 => if b = true then BB (Pv (i + 1)) σ2 H3 else Pv (i + 1) H3) (hd : ∀ H, Pv xs.length H → Qd H) :
    ∃ W : Nat → Nat → Hp → Prop, (∃ m, W 0 m H) ∧ ∀ i m H, W i m H →
      ((Itt K a).stop i H ∧ Qd H) ∨ ((Itt K a).go i H ∧ ∃ Nx : Hp → Prop, (∀ H', Nx H' → ∃ m', m' < m ∧ W (i + 1) m' H') ∧ ∀ x H', (Itt K a).yld i H x H' → g x (wipe σ vs) H' fun σ2 H2 => wipe σ2 vs = wipe σ vs ∧ tt σ2 H2 fun b H3 =>
        if b = true then BB Nx σ2 H3 else Nx H3) := by
  refine ⟨fun i m H => m = xs.length - i ∧ i ≤ xs.length ∧ Pv i H, ⟨xs.length, by simp, Nat.zero_le _, h0⟩, ?_⟩
  rintro i m H ⟨rfl, hi, pv⟩
  have sq := hl i H hi pv
  rcases Nat.lt_or_ge i xs.length with hlt | hlt
  · refine .inr ⟨⟨xs, _, sq, List.getElem?_eq_getElem hlt⟩, Pv (i + 1), fun H' p' => ⟨xs.length - (i + 1), by omega, rfl, hlt, p'⟩, fun x H' y => ?_⟩
    obtain ⟨e1, e2⟩ := y
    subst e1
    exact hs i x _ (e2 xs sq) pv
  · obtain rfl : i = xs.length := by omega
    exact .inl ⟨⟨xs, sq, Nat.le_refl _⟩, hd H pv⟩
end
end Mine

/-! ### R00 -/
namespace Mine
open PySem PySem.Spec L2
def top (i : Nat) : Stmt := PySem.Challenge.pw_hillrooms_k11_hills_of_runs.main.body.getD i (.Pass ⟨0, 0, 0, 0⟩)
/-- no global stands before these built-ins -/
structure Bl (mg : Str → Option Value) : Prop where
  all : mg "all" = none
  enumerate : mg "enumerate" = none
  sorted : mg "sorted" = none
  zip : mg "zip" = none
  bool : mg "bool" = none
  int : mg "int" = none
  isinstance : mg "isinstance" = none
  len : mg "len" = none
  max : mg "max" = none
  min : mg "min" = none
  range : mg "range" = none
  str : mg "str" = none
  tuple : mg "tuple" = none
/-- the source of draws: two numbers -/
def Src (H : Hp) (a : Addr) : Prop := ∃ b s : Int, H a = some (.lst [.int b, .int s]) ∧ 0 ≤ b ∧ 0 ≤ s ∧ s < 2147483647
theorem Src.ext {K : PySem.W.Frag} {H H' : Hp} {a : Addr} (h : Src H a) (s : SB a H H') : Ext K H H' := by
  obtain ⟨b, t, e, _⟩ := h
  exact Ext.of_SB s e trivial
theorem Src.ne {H : Hp} {a p : Addr} (h : Src H a) (hp : H p = none) : p ≠ a := by
  obtain ⟨b, t, e, _⟩ := h
  intro z
  rw [z, e] at hp
  cases hp
theorem Src.new {H : Hp} {a p : Addr} {o : HO} (h : Src H a) (hp : H p = none) : Src (upd H p o) a := by
  have n := h.ne hp
  obtain ⟨b, t, e, x⟩ := h
  exact ⟨b, t, by rw [upd_ne n.symm]; exact e, x⟩
theorem Src.set {H : Hp} {a p : Addr} {o : HO} (h : Src H a) (n : p ≠ a) : Src (upd H p o) a := by
  obtain ⟨b, t, e, x⟩ := h
  exact ⟨b, t, by rw [upd_ne n.symm]; exact e, x⟩
theorem Src.same {H H' : Hp} {a : Addr} (h : Src H a) (s : Same H H') : Src H' a := by
  obtain ⟨b, t, e, x⟩ := h
  exact ⟨b, t, s _ _ e, x⟩
/-- one draw -/
def spTake : Sp := fun vs H Q _ => ∃ (a : Addr) (t : Int), vs = [.ref a, .int t] ∧ Src H a ∧ 0 < t ∧ t < 1073741824 ∧
  ∀ (H' : Hp) (r : Int), SB a H H' → Src H' a → 0 ≤ r → r < t → Q (.int r) H'
theorem use_take {a : Addr} {t : Int} {H : Hp} {Q : VK} {E : XK} (h : Src H a) (h1 : 0 < t) (h2 : t < 1073741824) (q : ∀ (H' : Hp) (r : Int), SB a H H' → Src H' a → 0 ≤ r → r < t → Q (.int r) H') :
    spTake [.ref a, .int t] H Q E := ⟨a, t, rfl, h, h1, h2, q⟩
/-- one of a list -/
def spOne (K : PySem.W.Frag) : Sp := fun vs H Q _ => ∃ (a p : Addr) (xs : List V), vs = [.ref a, .ref p] ∧ Src H a ∧ SqL K H p xs ∧ p ≠ a ∧ 0 < xs.length ∧ xs.length < 1000 ∧
  ∀ (H' : Hp) (v : V), SB a H H' → Src H' a → v ∈ xs → Q v H'
theorem use_one {K : PySem.W.Frag} {a p : Addr} {xs : List V} {H : Hp} {Q : VK} {E : XK} (h : Src H a) (s : SqL K H p xs) (n : p ≠ a) (h1 : 0 < xs.length) (h2 : xs.length < 1000) (q : ∀ (H' : Hp) (v : V), SB a H H' → Src H' a → v ∈ xs → Q v H') :
    spOne K [.ref a, .ref p] H Q E := ⟨a, p, xs, rfl, h, s, n, h1, h2, q⟩
theorem SB.seqL {K : PySem.W.Frag} {a p : Addr} {H H' : Hp} {xs : List V} (s : SB a H H') (n : p ≠ a) (h : SqL K H p xs) : SqL K H' p xs := by
  rcases h with (h | ⟨o, h⟩) | h
  · exact .inl (.inl (s _ _ n h))
  · exact .inl (.inr ⟨o, s _ _ n h⟩)
  · exact .inr h
theorem at_in {xs : List V} {i : Int} (h0 : 0 ≤ i) (h1 : i < (xs.length : Int)) : ∃ v, atI xs i = some v ∧ v ∈ xs := by
  have hk : i.toNat < xs.length := by omega
  have e : i = ((i.toNat : Nat) : Int) := by omega
  have q : atI xs ((i.toNat : Nat) : Int) = some xs[i.toNat] := atI_nat (List.getElem?_eq_getElem hk)
  rw [← e] at q
  exact ⟨xs[i.toNat], q, List.getElem_mem hk⟩
theorem Same.upd_new {H H' : Hp} {D : Addr} {o : HO} (s : Same H H') (hD : H D = none) : Same H (upd H' D o) := fun b u h => by
  rw [upd_ne (ne_of_none h hD)]; exact s b u h
theorem at_ints {ns : List Int} {i : Int} (h0 : 0 ≤ i) (h1 : i < (ns.length : Int)) : ∃ n : Int, atI (ns.map V.int) i = some (.int n) := by
  obtain ⟨v, e, m⟩ := at_in (xs := ns.map V.int) h0 (by rw [List.length_map]; exact h1)
  obtain ⟨n, _, rfl⟩ := List.mem_map.mp m
  exact ⟨n, e⟩
theorem ll {n : Nat} (h : n ≤ 1000000) : n ≤ sizeLine := Nat.le_trans h (by decide)
theorem lk {n : Nat} (h : Nat.ble n 1000000 = true) : n ≤ sizeLine := ll (Nat.le_of_ble_eq_true h)
theorem ls {n : Nat} (h : n ≤ 1000000) : n < sizeLine := Nat.lt_of_le_of_lt h (by decide)
theorem cm {p : Bool} : -(2 ^ 64) < (if p then (1 : Int) else 0) ∧ (if p then (1 : Int) else 0) < 2 ^ 64 := by cases p <;> decide
theorem isE {ns : List Int} (h : (!(ns.map V.int).isEmpty) = true) : 0 < ns.length := by
  cases ns with
  | nil => cases h
  | cons a r => exact Nat.succ_pos _
end Mine

/-! ### M0 -/
namespace Mine
open PySem PySem.Spec L2
abbrev Letters : Str := "abcdefghijklmnopqrstuvwxyz"
/-! ## what the program tells of data -/
def isNum : PyData → Bool
  | .int _ => true
  | _ => false
def isBtw (d : PyData) (lo hi : Int) : Bool := match d with
  | .int i => decide (lo ≤ i) && decide (i ≤ hi)
  | _ => false
def lowAll (l : List Nat) : Bool := l.all fun c => decide (c ∈ Letters.cps.toList)
def isWord : PyData → Bool
  | .str z => decide ((1 : Int) ≤ z.length) && decide ((z.length : Int) ≤ 8) && lowAll z.cps.toList
  | _ => false
def rowNums (ds : List PyData) : Bool := ds.all fun d => isBtw d 0 1000002
def tellsRow (ds : List PyData) : Bool := decide ((1 : Int) ≤ ds.length) && decide ((ds.length : Int) ≤ 64) && rowNums ds
def tellsInput : List PyData → Bool
  | [a, b] => isWord a && isBtw b 1 64
  | _ => false
def tellsStretch : List PyData → Bool
  | [a, .int j] => isBtw (.int j) 0 64 && isBtw a 0 (j - 1)
  | _ => false
def tellsTimes : List PyData → Bool
  | [a] => isBtw a 1 16
  | _ => false
def tellsRoom : List PyData → Bool
  | [a] => isBtw a 0 64
  | _ => false
theorem dats_get : ∀ {ds : List PyData} {i : Nat} {d : PyData}, dats ds → ds[i]? = some d → dat d
  | [], _, _, _, e => by simp at e
  | a :: r, 0, d, h, e => by
    have q : a = d := by simpa using e
    rw [← q]; exact h.1
  | a :: r, i + 1, d, h, e => dats_get (ds := r) (i := i) h.2 (by simpa using e)
theorem dats_append : ∀ {a b : List PyData}, dats a → dats b → dats (a ++ b)
  | [], _, _, h => h
  | x :: r, b, h, k => ⟨h.1, dats_append h.2 k⟩
theorem dats_reverse : ∀ {a : List PyData}, dats a → dats a.reverse
  | [], _ => trivial
  | x :: r, h => by rw [List.reverse_cons]; exact dats_append (dats_reverse h.2) ⟨h.1, trivial⟩
theorem dats_dropLast : ∀ {a : List PyData}, dats a → dats a.dropLast
  | [], _ => trivial
  | [x], _ => trivial
  | x :: y :: r, h => ⟨h.1, dats_dropLast h.2⟩
theorem dats_mem : ∀ {ds : List PyData} {d : PyData}, dats ds → d ∈ ds → dat d
  | a :: r, d, h, m => by
    rcases List.mem_cons.mp m with rfl | m
    · exact h.1
    · exact dats_mem h.2 m
theorem app_list (x y : Str) : (x ++ y).cps.toList = x.cps.toList ++ y.cps.toList := by
  show (x.cps ++ y.cps).toList = _
  simp
theorem len_list (x : Str) : x.length = x.cps.toList.length := by
  show x.cps.size = _
  simp
/-- two numbers that end the range are tuples of two by turns -/
theorem all_map {α : Type} (f : α → Bool) (l : List α) : (l.map f).all id = l.all f := by
  induction l with
  | nil => rfl
  | cons a r ih => rw [List.map_cons, List.all_cons, List.all_cons, ih] <;> rfl
end Mine

/-! ### M3b -/
namespace Mine
open PySem PySem.Spec L2
theorem SB.upd_new {a : Addr} {H H' : Hp} {D : Addr} {o : HO} (s : SB a H H') (hD : H D = none) : SB a H (L2.upd H' D o) := fun b u n h => by
  rw [upd_ne (ne_of_none h hD)]; exact s b u n h
theorem okS_of {z : Str} (h1 : z.length ≤ 1000) (h2 : PyData.strOk z = true) : okS z := ⟨h1, by simp only [PyData.canLay0]; exact h2⟩
/-- v is plain data of a depth of at most n -/
def Dt (K : PySem.W.Frag) (n : Nat) (H : Hp) (v : V) : Prop := ∃ d, Rp K H v d ∧ dat d ∧ d.depth ≤ n
section
variable {K : PySem.W.Frag} {n m : Nat} {H H' : Hp} {v : V} {xs ys : List V} {p a : Addr} {d : PyData}
theorem Dt.mono (h : Dt K n H v) (e : Ext K H H') : Dt K n H' v := by
  obtain ⟨d, r, x, y⟩ := h
  exact ⟨d, r.mono e _ _, x, y⟩
theorem Dt.le (h : Dt K n H v) (e : n ≤ m) : Dt K m H v := by
  obtain ⟨d, r, x, y⟩ := h
  exact ⟨d, r, x, Nat.le_trans y e⟩
theorem Dt.int (i : Int) : Dt K n H (.int i) := ⟨.int i, .int i, by simp only [dat], by simp [PyData.depth]⟩
theorem Dt.non : Dt K n H .non := ⟨.none, .non, by simp only [dat], by simp [PyData.depth]⟩
theorem Dt.str {z : Str} (h : okS z) : Dt K n H (.str z) := ⟨.str z, .str z, by simpa only [dat] using h, by simp [PyData.depth]⟩
theorem Dt.all (h : ∀ x ∈ xs, Dt K n H x) : ∃ ds, Rps K H xs ds ∧ dats ds ∧ PyData.depthAll ds ≤ n ∧ ds.length = xs.length := by
  induction xs with
  | nil => exact ⟨[], .nil, trivial, by simp [PyData.depthAll], rfl⟩
  | cons x r ih =>
    obtain ⟨ds, a, b, c, e⟩ := ih (fun y hy => h y (List.mem_cons_of_mem _ hy))
    obtain ⟨d, a1, b1, c1⟩ := h x List.mem_cons_self
    exact ⟨d :: ds, .cons a1 a, ⟨b1, b⟩, by simp only [PyData.depthAll]; omega, by simp [e]⟩
theorem Dt.tup (h : ∀ x ∈ xs, Dt K n H x) (l : xs.length ≤ 1000) (s : SqT K H p xs) : Dt K (n + 1) H (.ref p) := by
  obtain ⟨ds, a, b, c, e⟩ := Dt.all h
  exact ⟨.tuple ds, .tup s a, by simp only [dat]; exact ⟨by omega, b⟩, by simp only [PyData.depth]; omega⟩
/-- the parts of a tuple -/
theorem Dt.parts {K : PySem.W.Frag} {n : Nat} {H : Hp} : ∀ {xs : List V} {ds : List PyData}, Rps K H xs ds → dats ds → PyData.depthAll ds ≤ n → ∀ x ∈ xs, Dt K n H x
  | _, _, .nil, _, _ => fun _ z => nomatch z
  | _, _, .cons (v := v) (d := d) (ds := ds) h1 h2, h, l => by
    simp only [PyData.depthAll] at l
    intro x hx
    rcases List.mem_cons.mp hx with rfl | hx
    · exact ⟨d, h1, h.1, by omega⟩
    · exact Dt.parts h2 h.2 (by omega) x hx
/-! ## what has been laid: a stack of values -/
def atomB : V → Bool
  | .int _ => true
  | .non => true
  | .str z => decide (z.length ≤ 1000) && PyData.strOk z
  | _ => false
theorem atom_dt (h : atomB v = true) : Dt K n H v := by
  cases v with
  | int i => exact .int i
  | non => exact .non
  | str z =>
    have q : (decide (z.length ≤ 1000) && PyData.strOk z) = true := h
    have q' := Bool.and_eq_true_iff.mp q
    exact .str (okS_of (of_decide_eq_true q'.1) q'.2)
  | _ => cases h
structure Lay (K : PySem.W.Frag) (a : Addr) (H0 : Hp) (n : Nat) (L : List V) (H : Hp) : Prop where
  sb : SB a H0 H
  src : Src H a
  dt : ∀ x ∈ L, Dt K n H x
theorem Lay.start (h : Src H a) : Lay K a H 0 [] H := ⟨SB.refl, h, fun _ z => nomatch z⟩
theorem Lay.tup {H0 : Hp} {L : List V} (h : Lay K a H0 n L H) (hp : H p = none) (l : xs.length ≤ 1000) (hx : ∀ x ∈ xs, x ∈ L ∨ atomB x = true) : Lay K a H0 (n + 1) (.ref p :: L) (upd H p (.tup xs)) := by
  have e : Ext K H (upd H p (.tup xs)) := Ext.new hp
  refine ⟨h.sb.new hp, h.src.new hp, fun x hm => ?_⟩
  rcases List.mem_cons.mp hm with rfl | hm
  · refine Dt.tup (xs := xs) (fun y hy => ?_) l (SqT.of upd_same)
    rcases hx y hy with q | q
    · exact (h.dt y q).mono e
    · exact atom_dt q
  · exact ((h.dt x hm).mono e).le (Nat.le_succ _)
theorem Lay.ext {H0 : Hp} {L : List V} (h : Lay K a H0 n L H) (s : Src H0 a) : Ext K H0 H := s.ext h.sb
theorem Lay.lst {H0 : Hp} {L : List V} (h : Lay K a H0 n L H) (hp : H p = none) : Lay K a H0 n L (upd H p (.lst xs)) := by
  have e : Ext K H (upd H p (.lst xs)) := Ext.new hp
  exact ⟨h.sb.new hp, h.src.new hp, fun x hm => (h.dt x hm).mono e⟩
theorem Lay.sbx {H0 : Hp} {L : List V} (h : Lay K a H0 n L H) (s : SB a H H') (hs : Src H' a) : Lay K a H0 n L H' := ⟨h.sb.trans s, hs, fun x hm => (h.dt x hm).mono (h.src.ext s)⟩
theorem Lay.push {H0 : Hp} {L : List V} (h : Lay K a H0 n L H) (d : Dt K m H v) (l : n ≤ m) : Lay K a H0 m (v :: L) H := ⟨h.sb, h.src, fun x hm => by
  rcases List.mem_cons.mp hm with rfl | hm
  · exact d
  · exact (h.dt x hm).le l⟩
theorem Lay.any {H0 : Hp} {L : List V} (h : Lay K a H0 n L H) (hx : ∀ x ∈ xs, x ∈ L ∨ atomB x = true) : ∀ x ∈ xs, Dt K n H x := fun y hy => by
  rcases hx y hy with q | q
  · exact h.dt y q
  · exact atom_dt q
theorem al0 {L : List V} : ∀ x ∈ ([] : List V), x ∈ L ∨ atomB x = true := fun _ z => nomatch z
theorem al1 {L : List V} {r : List V} (h : v ∈ L ∨ atomB v = true) (k : ∀ x ∈ r, x ∈ L ∨ atomB x = true) : ∀ x ∈ v :: r, x ∈ L ∨ atomB x = true := fun x hm => by
  rcases List.mem_cons.mp hm with rfl | hm
  · exact h
  · exact k x hm
/-! ## readings: dicts, tuples -/
variable {Q : VK} {σ : St}
theorem rd_dnew (h : ∀ p, H p = none → Q (.ref p) (upd H p (.dK []))) : tDNewK σ H Q := h
theorem rd_din {ty td : TE} (h : ty σ H fun y H1 => td σ H1 fun x H2 => ∃ a o, x = .ref a ∧ DGet H2 a y o ∧ Q (.bl o.isSome) H2) : tDIn ty td σ H Q := h
theorem u_din {i : Int} {kvs : List (Key × V)} {R : Option V → Prop} (e : H a = some (.dK kvs)) (h : R (valV kvs (Sum.inl i))) : ∃ a' o, V.ref a = .ref a' ∧ DGet H a' (.int i) o ∧ R o := ⟨a, _, rfl, DGet.k (k := Sum.inl i) e, h⟩
theorem rd_dget {ty td : TE} (h : td σ H fun x H1 => ty σ H1 fun y H2 => ∃ a v, x = .ref a ∧ DGet H2 a y (some v) ∧ Q v H2) : tDGet td ty σ H Q := h
theorem u_dget {i : Int} {kvs : List (Key × V)} {R : V → Prop} (e : H a = some (.dK kvs)) (ev : valV kvs (Sum.inl i) = some v) (h : R v) : ∃ a' v', V.ref a = .ref a' ∧ DGet H a' (.int i) (some v') ∧ R v' := ⟨a, v, rfl, by rw [← ev]; exact DGet.k (k := Sum.inl i) e, h⟩
theorem rd_dput {ty td tv : TE} {n bk ct : St → Hp → Prop} {rt : VK} (h : tv σ H fun v H1 => td σ H1 fun x H2 => ty σ H2 fun y H3 => ∃ a H4, x = .ref a ∧ DPut H3 a y v H4 ∧ n σ H4) : sDPut td ty tv ⟨n, rt, bk, ct⟩ σ H := h
theorem u_dput {i : Int} {kvs : List (Key × V)} {R : Hp → Prop} (e : H a = some (.dK kvs)) (l : kvs.length < sizeLine) (h : R (upd H a (.dK (putK kvs (Sum.inl i) v)))) : ∃ a' H4, V.ref a = .ref a' ∧ DPut H a' (.int i) v H4 ∧ R H4 := ⟨a, _, rfl, DPut.k (k := Sum.inl i) e l, h⟩
theorem rd_disp1 {tk tv : TE} (h : ∀ p, H p = none → tk σ (upd H p (.dK [])) fun x H1 => tv σ H1 fun y H2 => H2 p = some (.dK []) ∧ ∃ kvs : List (Key × V), [(x, y)] = kvs.map (fun kv => (kV kv.1, kv.2)) ∧ kvs.length ≤ 15 ∧ Q (.ref p) (upd H2 p (.dK (mergeK [] kvs)))) : tDisp [(tk, tv)] σ H Q := h
theorem merge1 {k : Key} {y : V} : mergeK [] [(k, y)] = [(k, y)] := rfl
theorem u_disp1 {i : Int} {y : V} {R : List (Key × V) → Prop} (e : H p = some (.dK [])) (h : R [(Sum.inl i, y)]) : H p = some (.dK []) ∧ ∃ kvs : List (Key × V), [(V.int i, y)] = kvs.map (fun kv => (kV kv.1, kv.2)) ∧ kvs.length ≤ 15 ∧ R kvs := ⟨e, [(Sum.inl i, y)], rfl, by simp, h⟩
theorem rd_sl {r : V → Option Int → Option Int → Hp → VK → Prop} {te : TE} {tl th : TO} (h : te σ H fun x H1 => tl σ H1 fun l H2 => th σ H2 fun u H3 => r x l u H3 Q) : tSl r te tl th σ H Q := h
theorem rd_part {te : TE} {R : Option Int → Hp → Prop} (h : te σ H fun x H1 => ∃ i, x = .int i ∧ R (some i) H1) : tPart te σ H R := h
theorem rd_partI {i : Int} {R : Int → Prop} (h : R i) : ∃ i', V.int i = .int i' ∧ R i' := ⟨i, rfl, h⟩
theorem rd_nopart {R : Option Int → Hp → Prop} (h : R none H) : tNoPart σ H R := h
theorem u_slT {lo hi : Option Int} (ha : SqT K H a xs) (h0 : Q (.ref a) H) (h : ∀ p, H p = none → Q (.ref p) (upd H p (.tup (cutV xs lo hi)))) : rSlU K (.ref a) lo hi H Q := .inr ⟨a, xs, rfl, ha, fun _ => h0, fun _ => h⟩
theorem cut_mem {lo hi : Option Int} {x : V} (h : x ∈ cutV xs lo hi) : x ∈ xs := List.mem_of_mem_drop (List.mem_of_mem_take h)
theorem u_catT {b : Addr} (ha : SqT K H a xs) (hb : SqT K H b ys) (l : xs.length + ys.length ≤ sizeLine) (n1 : ys ≠ []) (h0 : xs = [] → Q (.ref b) H) (h : xs ≠ [] → ∀ p, H p = none → Q (.ref p) (upd H p (.tup (xs ++ ys)))) : rAddU K (.ref a) (.ref b) H Q :=
  .inr (.inr (.inr ⟨a, b, xs, ys, rfl, rfl, ha, hb, l, h0, fun _ z => absurd z n1, fun x _ => h x⟩))
theorem u_repT {i : Int} (ha : SqT K H a xs) (n0 : xs ≠ []) (h1 : 2 ≤ i) (h2 : i ≤ 1000) (l : xs.length ≤ 1000) (h : ∀ p, H p = none → Q (.ref p) (upd H p (.tup (List.replicate i.toNat xs).flatten))) : rMulU K (.ref a) (.int i) H Q :=
  .inr (.inr ⟨a, i, xs, rfl, rfl, ha, n0, h1, h2, l, h⟩)
theorem Lay.same {H0 : Hp} {L : List V} (h : Lay K a H0 n L H) (s : Same H H') : Lay K a H0 n L H' := h.sbx (SB.of_same s) (h.src.same s)
theorem Lay.le {H0 : Hp} {L : List V} (h : Lay K a H0 n L H) (e : n ≤ m) : Lay K a H0 m L H := ⟨h.sb, h.src, fun x hx => (h.dt x hx).le e⟩
theorem Lay.sub {H0 : Hp} {L M : List V} (h : Lay K a H0 n L H) (e : ∀ x ∈ M, x ∈ L) : Lay K a H0 n M H := ⟨h.sb, h.src, fun x hx => h.dt x (e x hx)⟩
theorem SB.fresh {b : Addr} (s : SB a H H') (n : b ≠ a) (h : H' b = none) : H b = none := by
  cases e : H b with
  | none => rfl
  | some o => rw [s b o n e] at h; cases h
theorem Lay.write {H0 : Hp} {L : List V} {D : Addr} {o u : HO} (h : Lay K a H0 n L H) (hD : H0 D = none) (nd : D ≠ a) (e : H D = some o) (hn : noTup o) : Lay K a H0 n L (upd H D u) := ⟨h.sb.upd_new hD, h.src.set nd, fun x hx => (h.dt x hx).mono (Ext.set e hn)⟩
theorem u_slD {lo hi : Option Int} (ha : SqT K H a xs) (hd : ∀ x ∈ xs, Dt K n H x) (hl : xs.length ≤ 1000) (h : ∀ q H', Same H H' → Dt K (n + 1) H' (.ref q) → Q (.ref q) H') : rSlU K (.ref a) lo hi H Q :=
  u_slT ha (h a H (Same.refl H) (Dt.tup hd hl ha)) fun p hp => h p _ (same_new hp _) (Dt.tup (xs := cutV xs lo hi) (fun x hx => (hd x (cut_mem hx)).mono (Ext.new hp)) (Nat.le_trans (cutV_length xs lo hi) hl) (SqT.of upd_same))
theorem u_catD {b : Addr} (ha : SqT K H a xs) (hb : SqT K H b ys) (hd : ∀ x ∈ xs, Dt K n H x) (he : ∀ x ∈ ys, Dt K n H x) (hl : xs.length + ys.length ≤ 1000) (n1 : ys ≠ []) (h : ∀ q H', Same H H' → Dt K (n + 1) H' (.ref q) → Q (.ref q) H') : rAddU K (.ref a) (.ref b) H Q :=
  u_catT ha hb (ll (by omega)) n1 (fun _ => h b H (Same.refl H) (Dt.tup he (by omega) hb)) fun _ p hp => h p _ (same_new hp _) (Dt.tup (xs := xs ++ ys) (fun x hx => (by
    rcases List.mem_append.mp hx with h1 | h1
    · exact (hd x h1).mono (Ext.new hp)
    · exact (he x h1).mono (Ext.new hp))) (by rw [List.length_append]; exact hl) (SqT.of upd_same))
end
end Mine

/-! ### N1 -/
/-! ## runs cut into blocks -/
namespace Mine
/-- an entry of a run: needed, held, steps -/
structure Ent where
  n : Int
  h : Int
  s : List Int
/-- some entries side by side, their hill and their valley -/
structure Bk where
  es : List Ent
  H : Int
  V : Int
/-- each entry holds V at least, or one behind it needs H -/
def gd (H V : Int) : List Ent → Prop
  | [] => True
  | e :: r => (V ≤ e.h ∨ ∃ f ∈ r, H ≤ f.n) ∧ gd H V r
theorem gd_app1 {H V : Int} {b : List Ent} (hb : gd H V b) (hf : ∃ f ∈ b, H ≤ f.n) : ∀ a : List Ent, gd H V (a ++ b)
  | [] => hb
  | e :: r => by
    obtain ⟨f, hm, hl⟩ := hf
    exact ⟨.inr ⟨f, List.mem_append_right _ hm, hl⟩, gd_app1 hb ⟨f, hm, hl⟩ r⟩
theorem gd_all {H V : Int} : ∀ b : List Ent, (∀ e ∈ b, V ≤ e.h) → gd H V b
  | [], _ => trivial
  | e :: r, h => ⟨.inl (h e List.mem_cons_self), gd_all r fun x hx => h x (List.mem_cons_of_mem _ hx)⟩
theorem gd_app2 {H V : Int} {b : List Ent} (hb : ∀ e ∈ b, V ≤ e.h) : ∀ {a : List Ent}, gd H V a → gd H V (a ++ b)
  | [], _ => gd_all b hb
  | e :: r, h => ⟨h.1.elim .inl fun ⟨f, hm, hl⟩ => .inr ⟨f, List.mem_append_left _ hm, hl⟩, gd_app2 hb h.2⟩
theorem gd_less {H V W : Int} (hv : W ≤ V) : ∀ {a : List Ent}, gd H V a → gd H W a
  | [], _ => trivial
  | e :: r, h => ⟨h.1.elim (fun x => .inl (Int.le_trans hv x)) .inr, gd_less hv h.2⟩
theorem gd_at {H V : Int} : ∀ {a : List Ent} {k : Nat} {e : Ent}, gd H V a → a[k]? = some e → V ≤ e.h ∨ ∃ (m : Nat) (f : Ent), k < m ∧ a[m]? = some f ∧ H ≤ f.n
  | [], _, _, _, z => by simp at z
  | x :: r, 0, e, h, z => by
    obtain rfl : x = e := by simpa using z
    rcases h.1 with q | ⟨f, hm, hl⟩
    · exact .inl q
    · obtain ⟨m, hm'⟩ := List.getElem?_of_mem hm
      exact .inr ⟨m + 1, f, Nat.succ_pos _, by simpa using hm', hl⟩
  | x :: r, k + 1, e, h, z => by
    rcases gd_at (a := r) (k := k) (e := e) h.2 (by simpa using z) with q | ⟨m, f, h1, h2, h3⟩
    · exact .inl q
    · exact .inr ⟨m + 1, f, by omega, by simpa using h2, h3⟩
structure Bk.ok (b : Bk) : Prop where
  le : ∀ e ∈ b.es, e.n ≤ b.H
  at' : ∃ e ∈ b.es, e.n = b.H
  last : ∃ m e, b.es = m ++ [e] ∧ e.h = b.V
  g : gd b.H b.V b.es
/-- how one block stands ahead of another -/
def RR (b c : Bk) : Prop := c.H < b.H ∧ ∀ e ∈ c.es, b.V < e.h
theorem Bk.ok.vin {b : Bk} (h : b.ok) : ∃ e ∈ b.es, e.h = b.V := by
  obtain ⟨m, e, h1, h2⟩ := h.last
  exact ⟨e, by rw [h1]; simp, h2⟩
theorem RR.val {b c : Bk} (h : RR b c) (hc : c.ok) : b.V < c.V := by
  obtain ⟨e, h1, h2⟩ := hc.vin
  rw [← h2]; exact h.2 e h1
theorem RR.trans {a b c : Bk} (h : RR a b) (k : RR b c) (hb : b.ok) : RR a c :=
  ⟨Int.lt_trans k.1 h.1, fun e he => Int.lt_trans (h.val hb) (k.2 e he)⟩
structure Good (bs : List Bk) : Prop where
  ok : ∀ b ∈ bs, b.ok
  pw : bs.Pairwise RR
theorem Good.nil : Good [] := ⟨fun _ z => (by cases z), List.Pairwise.nil⟩
def fl (bs : List Bk) : List Ent := bs.flatMap Bk.es
theorem fl_append (a b : List Bk) : fl (a ++ b) = fl a ++ fl b := by unfold fl; rw [List.flatMap_append]
theorem fl_one (b : Bk) : fl [b] = b.es := by unfold fl; simp
theorem fl_cons (b : Bk) (r : List Bk) : fl (b :: r) = b.es ++ fl r := by unfold fl; simp
/-- the block that is under way, above the stack bs -/
structure Way (bs : List Bk) (b : Bk) : Prop where
  ok : b.ok
  up : ∃ m e, b.es = m ++ [e] ∧ e.h = b.V ∧ ∀ x ∈ m, ∀ a ∈ bs, a.V < x.h
theorem Way.one (bs : List Bk) (e : Ent) : Way bs ⟨[e], e.n, e.h⟩ :=
  ⟨⟨by simp, by simp, ⟨[], e, rfl, rfl⟩, ⟨.inl (Int.le_refl _), trivial⟩⟩, [], e, rfl, rfl, fun _ z => (by cases z)⟩
theorem Good.init {bs : List Bk} {t : Bk} (h : Good (bs ++ [t])) : Good bs ∧ t.ok ∧ ∀ a ∈ bs, RR a t := by
  obtain ⟨p1, _, p3⟩ := List.pairwise_append.mp h.pw
  exact ⟨⟨fun b hb => h.ok b (List.mem_append_left _ hb), p1⟩, h.ok t (by simp), fun a ha => p3 a ha t (by simp)⟩
theorem Way.join {bs : List Bk} {t b : Bk} (h : Good (bs ++ [t])) (w : Way (bs ++ [t]) b) (c : t.H ≤ b.H ∨ b.V ≤ t.V) : Way bs ⟨t.es ++ b.es, max t.H b.H, b.V⟩ := by
  obtain ⟨g, tk, rt⟩ := h.init
  obtain ⟨m, e, em, eh, hm⟩ := w.up
  have hall : b.V ≤ t.V → ∀ x ∈ b.es, b.V ≤ x.h := fun hv x hx => by
    rw [em] at hx
    rcases List.mem_append.mp hx with hx | hx
    · have := hm x hx t (by simp)
      omega
    · have : x = e := by simpa using hx
      subst this
      omega
  refine ⟨⟨?_, ?_, ⟨t.es ++ m, e, by rw [em, List.append_assoc], eh⟩, ?_⟩, t.es ++ m, e, by rw [em, List.append_assoc], eh, ?_⟩
  · intro x hx
    rcases List.mem_append.mp hx with hx | hx
    · have := tk.le x hx
      show x.n ≤ max t.H b.H
      omega
    · have := w.ok.le x hx
      show x.n ≤ max t.H b.H
      omega
  · by_cases q : t.H ≤ b.H
    · obtain ⟨x, hx, ex⟩ := w.ok.at'
      exact ⟨x, List.mem_append_right _ hx, by show x.n = max t.H b.H; omega⟩
    · obtain ⟨x, hx, ex⟩ := tk.at'
      exact ⟨x, List.mem_append_left _ hx, by show x.n = max t.H b.H; omega⟩
  · show gd (max t.H b.H) b.V (t.es ++ b.es)
    by_cases q : t.H ≤ b.H
    · rw [show max t.H b.H = b.H by omega]
      obtain ⟨x, hx, ex⟩ := w.ok.at'
      exact gd_app1 w.ok.g ⟨x, hx, by omega⟩ _
    · have hv : b.V ≤ t.V := c.resolve_left q
      rw [show max t.H b.H = t.H by omega]
      exact gd_app2 (hall hv) (gd_less hv tk.g)
  · intro x hx a ha
    rcases List.mem_append.mp hx with hx | hx
    · exact (rt a ha).2 x hx
    · exact hm x hx a (List.mem_append_left _ ha)
theorem Good.push {bs : List Bk} {b : Bk} (h : Good bs) (w : Way bs b) (c : ∀ t, bs.getLast? = some t → b.H < t.H ∧ t.V < b.V) : Good (bs ++ [b]) := by
  refine ⟨fun x hx => ?_, List.pairwise_append.mpr ⟨h.pw, List.pairwise_singleton _ _, ?_⟩⟩
  · rcases List.mem_append.mp hx with hx | hx
    · exact h.ok x hx
    · have : x = b := by simpa using hx
      subst this
      exact w.ok
  · intro a ha y hy
    have : y = b := by simpa using hy
    subst this
    rcases List.eq_nil_or_concat bs with rfl | ⟨r, t, rfl⟩
    · cases ha
    rw [List.concat_eq_append] at *
    obtain ⟨c1, c2⟩ := c t (by simp)
    obtain ⟨m, e, em, eh, hm⟩ := w.up
    have rt : RR t y := ⟨c1, fun x hx => by
      rw [em] at hx
      rcases List.mem_append.mp hx with hx | hx
      · exact hm x hx t (by simp)
      · have : x = e := by simpa using hx
        subst this
        omega⟩
    rcases List.mem_append.mp ha with ha | ha
    · exact ((h.init).2.2 a ha).trans rt (h.ok t (by simp))
    · have : a = t := by simpa using ha
      subst this
      exact rt
/-! ## the first block, found by its hill and its valley -/
section
variable {b : Bk} {r : List Bk}
theorem Good.tail (h : Good (b :: r)) : Good r := ⟨fun x hx => h.ok x (List.mem_cons_of_mem _ hx), (List.pairwise_cons.mp h.pw).2⟩
theorem Good.rest (h : Good (b :: r)) : ∀ e ∈ fl r, e.n < b.H ∧ b.V < e.h := fun e he => by
  obtain ⟨c, hc, he⟩ := List.mem_flatMap.mp he
  have rr := (List.pairwise_cons.mp h.pw).1 c hc
  exact ⟨Int.lt_of_le_of_lt ((h.ok c (List.mem_cons_of_mem _ hc)).le e he) rr.1, rr.2 e he⟩
theorem Good.hill (h : Good (b :: r)) {m : Int} (h1 : m ∈ (fl (b :: r)).map Ent.n) (h2 : ∀ y ∈ (fl (b :: r)).map Ent.n, y ≤ m) : m = b.H := by
  have bo := h.ok b List.mem_cons_self
  obtain ⟨e, he, en⟩ := bo.at'
  have q1 : b.H ≤ m := h2 _ (by rw [fl_cons, ← en]; exact List.mem_map_of_mem (List.mem_append_left _ he))
  obtain ⟨f, hf, fn⟩ := List.mem_map.mp h1
  rw [fl_cons] at hf
  rcases List.mem_append.mp hf with hf | hf
  · have := bo.le f hf
    omega
  · have := (h.rest f hf).1
    omega
theorem Good.len (h : Good (b :: r)) : 0 < b.es.length := by
  obtain ⟨m, e, h1, _⟩ := (h.ok b List.mem_cons_self).last
  rw [h1, List.length_append]
  exact Nat.succ_pos _
/-- what is known of the last place of the hill -/
structure Top (b : Bk) (r : List Bk) (t : Nat) : Prop where
  lt : t < (fl (b :: r)).length
  last : ∀ k e, (fl (b :: r))[k]? = some e → e.n = b.H → k ≤ t
  at' : ∃ e, (fl (b :: r))[t]? = some e ∧ e.n = b.H
theorem Good.in_b (h : Good (b :: r)) {k : Nat} {e : Ent} (he : (fl (b :: r))[k]? = some e) : (k < b.es.length ∧ b.es[k]? = some e) ∨ (b.es.length ≤ k ∧ e ∈ fl r) := by
  rw [fl_cons] at he
  rcases Nat.lt_or_ge k b.es.length with q | q
  · rw [List.getElem?_append_left q] at he
    exact .inl ⟨q, he⟩
  · rw [List.getElem?_append_right q] at he
    exact .inr ⟨q, List.mem_of_getElem? he⟩
theorem Top.ltb {t : Nat} (T : Top b r t) (h : Good (b :: r)) : t < b.es.length := by
  obtain ⟨e, he, en⟩ := T.at'
  rcases h.in_b he with q | ⟨_, q⟩
  · exact q.1
  · have := (h.rest e q).1
    omega
theorem Good.endAt (h : Good (b :: r)) : ∃ e, (fl (b :: r))[b.es.length - 1]? = some e ∧ e.h = b.V := by
  obtain ⟨m, e, h1, h2⟩ := (h.ok b List.mem_cons_self).last
  refine ⟨e, ?_, h2⟩
  rw [fl_cons, h1]
  simp
theorem Top.low {t : Nat} (T : Top b r t) (h : Good (b :: r)) {m : Int} (h1 : m ∈ ((fl (b :: r)).drop t).map Ent.h) (h2 : ∀ y ∈ ((fl (b :: r)).drop t).map Ent.h, m ≤ y) : m = b.V := by
  have tb := T.ltb h
  obtain ⟨e, he, eh⟩ := h.endAt
  have q1 : m ≤ b.V := h2 _ (by
    rw [← eh]
    refine List.mem_map_of_mem (List.mem_of_getElem? (i := b.es.length - 1 - t) ?_)
    rw [List.getElem?_drop, show t + (b.es.length - 1 - t) = b.es.length - 1 by omega]
    exact he)
  obtain ⟨f, hf, fh⟩ := List.mem_map.mp h1
  obtain ⟨k, hk⟩ := List.getElem?_of_mem hf
  rw [List.getElem?_drop] at hk
  rcases h.in_b hk with ⟨q, hq⟩ | ⟨q, hq⟩
  · rcases gd_at (h.ok b List.mem_cons_self).g hq with z | ⟨j, g, j1, j2, j3⟩
    · omega
    · exfalso
      have gl := (h.ok b List.mem_cons_self).le g (List.mem_of_getElem? j2)
      have jl : j < b.es.length := by
        rcases Nat.lt_or_ge j b.es.length with w | w
        · exact w
        · rw [List.getElem?_eq_none w] at j2
          cases j2
      have := T.last j g (by rw [fl_cons, List.getElem?_append_left jl]; exact j2) (by omega)
      omega
  · have := (h.rest f hq).2
    omega
theorem Top.stop {t : Nat} (T : Top b r t) (h : Good (b :: r)) {k : Nat} (h1 : ∃ e, (fl (b :: r))[k]? = some e ∧ e.h = b.V) (h2 : ∀ j e, t ≤ j → (fl (b :: r))[j]? = some e → e.h = b.V → j ≤ k) : k = b.es.length - 1 := by
  have tb := T.ltb h
  obtain ⟨e, he, eh⟩ := h.endAt
  have q1 := h2 (b.es.length - 1) e (by omega) he eh
  obtain ⟨f, hf, fh⟩ := h1
  rcases h.in_b hf with ⟨q, hq⟩ | ⟨q, hq⟩
  · omega
  · have := (h.rest f hq).2
    omega
end
end Mine

/-! ### N2 -/
/-! ## places found by a test -/
namespace Mine
/-- the places t + j, j below k, whose entry passes -/
def idx (f : Ent → Bool) (es : List Ent) (t k : Nat) : List Nat := ((List.range k).filter fun j => (es[t + j]?).any f).map (t + ·)
theorem idx_zero (f : Ent → Bool) (es : List Ent) (t : Nat) : idx f es t 0 = [] := rfl
theorem idx_yes {f : Ent → Bool} {es : List Ent} {t k : Nat} {e : Ent} (h : es[t + k]? = some e) (y : f e = true) : idx f es t (k + 1) = idx f es t k ++ [t + k] := by
  have g : (es[t + k]?).any f = true := by rw [h]; exact y
  unfold idx
  rw [List.range_succ, List.filter_append, List.map_append, List.filter_cons, if_pos g] <;> rfl
theorem idx_no {f : Ent → Bool} {es : List Ent} {t k : Nat} {e : Ent} (h : es[t + k]? = some e) (y : f e = false) : idx f es t (k + 1) = idx f es t k := by
  have g : (es[t + k]?).any f = false := by rw [h]; exact y
  unfold idx
  rw [List.range_succ, List.filter_append, List.filter_cons, g]
  simp
theorem idx_len (f : Ent → Bool) (es : List Ent) (t k : Nat) : (idx f es t k).length ≤ k := by
  unfold idx
  rw [List.length_map]
  exact Nat.le_trans (List.length_filter_le _ _) (by rw [List.length_range]; exact Nat.le_refl _)
theorem idx_mem {f : Ent → Bool} {es : List Ent} {t k j : Nat} : j ∈ idx f es t k ↔ t ≤ j ∧ j < t + k ∧ ∃ e, es[j]? = some e ∧ f e = true := by
  unfold idx
  constructor
  · intro h
    obtain ⟨m, hm, rfl⟩ := List.mem_map.mp h
    obtain ⟨h1, h2⟩ := List.mem_filter.mp hm
    have h3 := List.mem_range.mp h1
    rw [Option.any_eq_true] at h2
    exact ⟨by omega, by omega, h2⟩
  · rintro ⟨h1, h2, e, h3, h4⟩
    refine List.mem_map.mpr ⟨j - t, List.mem_filter.mpr ⟨List.mem_range.mpr (by omega), ?_⟩, by omega⟩
    rw [show t + (j - t) = j by omega, h3]
    exact h4
theorem lt_of_get {α : Type} {l : List α} {k : Nat} {e : α} (h : l[k]? = some e) : k < l.length := by
  rcases Nat.lt_or_ge k l.length with z | z
  · exact z
  · rw [List.getElem?_eq_none z] at h
    cases h
section
variable {b : Bk} {r : List Bk}
theorem idx_top (h : Good (b :: r)) {t : Nat} (h1 : t ∈ idx (fun e => decide (e.n = b.H)) (fl (b :: r)) 0 (fl (b :: r)).length) (h2 : ∀ y ∈ idx (fun e => decide (e.n = b.H)) (fl (b :: r)) 0 (fl (b :: r)).length, y ≤ t) : Top b r t := by
  obtain ⟨_, l1, e, l2, l3⟩ := idx_mem.mp h1
  exact ⟨by omega, fun k f hf hk => h2 k (idx_mem.mpr ⟨Nat.zero_le _, by have := lt_of_get hf; omega, f, hf, decide_eq_true hk⟩), e, l2, of_decide_eq_true l3⟩
theorem idx_ne1 (h : Good (b :: r)) : idx (fun e => decide (e.n = b.H)) (fl (b :: r)) 0 (fl (b :: r)).length ≠ [] := by
  obtain ⟨e, he, en⟩ := (h.ok b List.mem_cons_self).at'
  obtain ⟨k, hk⟩ := List.getElem?_of_mem he
  have hk2 : (fl (b :: r))[k]? = some e := by rw [fl_cons, List.getElem?_append_left (lt_of_get hk)]; exact hk
  have z : k ∈ idx (fun e => decide (e.n = b.H)) (fl (b :: r)) 0 (fl (b :: r)).length := idx_mem.mpr ⟨Nat.zero_le _, by have := lt_of_get hk2; omega, e, hk2, decide_eq_true en⟩
  exact List.ne_nil_of_mem z
theorem idx_stop {t : Nat} (T : Top b r t) (h : Good (b :: r)) {k : Nat} (h1 : k ∈ idx (fun e => decide (e.h = b.V)) (fl (b :: r)) t ((fl (b :: r)).length - t)) (h2 : ∀ y ∈ idx (fun e => decide (e.h = b.V)) (fl (b :: r)) t ((fl (b :: r)).length - t), y ≤ k) : k = b.es.length - 1 := by
  obtain ⟨_, l1, e, l2, l3⟩ := idx_mem.mp h1
  refine T.stop h ⟨e, l2, of_decide_eq_true l3⟩ fun j f hj hf hv => h2 j (idx_mem.mpr ⟨hj, by have := lt_of_get hf; omega, f, hf, decide_eq_true hv⟩)
theorem idx_ne2 {t : Nat} (T : Top b r t) (h : Good (b :: r)) : idx (fun e => decide (e.h = b.V)) (fl (b :: r)) t ((fl (b :: r)).length - t) ≠ [] := by
  obtain ⟨e, he, eh⟩ := h.endAt
  have tb := T.ltb h
  have := lt_of_get he
  exact List.ne_nil_of_mem (idx_mem.mpr ⟨by omega, by omega, e, he, decide_eq_true eh⟩)
end
theorem Good.drop {bs : List Bk} (h : Good bs) (i : Nat) : Good (bs.drop i) := ⟨fun b hb => h.ok b (List.mem_of_mem_drop hb), h.pw.sublist (List.drop_sublist i bs)⟩
theorem drop_fl (bs : List Bk) (i : Nat) : (fl bs).drop (fl (bs.take i)).length = fl (bs.drop i) := by
  have e : fl bs = fl (bs.take i) ++ fl (bs.drop i) := by rw [← fl_append, List.take_append_drop]
  rw [e, List.drop_left]
end Mine

/-! ### D1 -/
namespace Mine
open PySem PySem.Spec L2
local macro_rules | `(tactic| walk_at "st") => `(tactic| first
  | ((with_reducible apply rd_var); exact rfl)
  | (with_reducible apply rd_c)
  | (with_reducible apply rd_seq)
  | (with_reducible apply rd_asg)
  | (with_reducible apply rd_gname)
  | (with_reducible apply rd_op)
  | (with_reducible apply rd_cb)
  | (with_reducible apply rd_cons)
  | (with_reducible apply rd_nil)
  | (with_reducible apply rd_if)
  | (with_reducible apply rd_test)
  | (with_reducible apply rd_bl)
  | (with_reducible apply rd_retE)
  | (with_reducible apply rd_ret)
  | (with_reducible apply rd_call)
  | (with_reducible apply rd_tup)
  | (with_reducible apply rd_lst)
  | (with_reducible apply rd_drop)
  | (with_reducible apply rd_next)
  | (with_reducible apply rd_ife)
  | (with_reducible apply rd_gsub)
  | (with_reducible apply rd_par)
  | (with_reducible apply rd_par_end)
  | (with_reducible apply rd_un)
  | (with_reducible apply rd_and)
  | (with_reducible apply rd_or)
  | (with_reducible apply rd_not)
  | (with_reducible apply rd_andV)
  | (with_reducible apply rd_orV)
  | (with_reducible apply rd_notV)
  | (with_reducible apply rd_chain)
  | (with_reducible apply rd_tB)
  | (with_reducible apply rd_brk)
  | (with_reducible apply rd_ct)
  | (with_reducible apply u_add)
  | (with_reducible apply u_sub)
  | (with_reducible apply u_lt)
  | (with_reducible apply u_le)
  | (with_reducible apply u_gt)
  | (with_reducible apply u_ge)
  | (with_reducible apply u_eqI)
  | (with_reducible apply u_eqS)
  | (with_reducible apply u_neI)
  | (with_reducible apply u_int)
  | (with_reducible apply u_intB)
  | (with_reducible apply u_max)
  | (with_reducible apply u_min)
  | (with_reducible apply u_neg)
  | ((with_reducible apply u_mod); focus first | assumption | decide | omega)
  | ((with_reducible apply u_div); focus first | decide | omega | (constructor <;> first | assumption | omega))
  | ((with_reducible apply u_mul); focus first | exact Or.inl (by omega) | exact Or.inr (by omega) | exact Or.inl (by decide) | exact Or.inr (by decide))
  | ((with_reducible apply u_ixL); (focus (first | assumption | exact SqL.of (by assumption) | exact SqL.of upd_same)); exact rfl)
  | ((with_reducible apply u_lenL); focus (first | assumption | exact SqL.of (by assumption) | exact SqL.of upd_same))
  | ((with_reducible apply u_lenT); focus (first | assumption | exact SqT.of (by assumption) | exact SqT.of upd_same))
  | ((with_reducible apply u_setL); (focus (first | assumption | exact upd_same)); exact rfl)
  | (with_reducible apply rd_chain3)
  | (with_reducible apply rd_tru)
  | (with_reducible apply rd_truB)
  | ((with_reducible apply rd_truL); focus (first | assumption | exact SqL.of (by assumption) | exact SqL.of upd_same))
  | (with_reducible apply rd_bm)
  | (with_reducible apply rd_bm0)
  | ((with_reducible apply rd_tyL); focus (first | exact SqL.of (by assumption) | exact SqL.of upd_same))
  | (with_reducible apply u_min3)
  | (with_reducible apply rd_rev)
  | (with_reducible apply rd_iList)
  | (with_reducible apply rd_iTup)
  | (with_reducible apply rd_for)
  | (with_reducible apply rd_rng1)
  | (with_reducible apply rd_rng2)
  | ((with_reducible apply rd_rng1e); (focus omega); (focus omega))
  | ((with_reducible apply rd_rng2e); (focus omega))
  | (with_reducible apply rd_gcons)
  | (with_reducible apply rd_gnil)
  | (with_reducible apply rd_retN)
  | (with_reducible apply g_eqI)
  | (with_reducible apply g_eqS)
  | (with_reducible apply g_neI)
  | (with_reducible apply g_neS)
  | (with_reducible apply g_neB)
  | (with_reducible apply rd_xf)
  | (with_reducible apply rd_raiseE)
  | (with_reducible apply rd_callS)
  | (with_reducible apply u_inD)
  | (with_reducible apply u_notInD)
  | (with_reducible apply u_inS)
  | (with_reducible apply u_notInS)
  | (with_reducible apply rd_iSeq)
  | ((with_reducible apply rd_seqL); (focus first | assumption | exact SqL.of (by assumption) | exact SqL.of upd_same))
  | ((with_reducible apply rd_seqT); (focus first | assumption | exact SqT.of (by assumption) | exact SqT.of upd_same))
  | (with_reducible apply rd_istr)
  | (with_reducible apply rd_istrE)
  | ((with_reducible apply u_isi); (focus (first | exact Or.inl rfl | exact Or.inr (Or.inl rfl) | exact Or.inr (Or.inr (Or.inl rfl)) | exact Or.inr (Or.inr (Or.inr rfl)))); (focus first | assumption | exact Rp.int _ | exact Rp.str _))
  | ((with_reducible apply rd_itL); (focus first | assumption | exact SqL.of (by assumption) | exact SqL.of upd_same))
  | ((with_reducible apply rd_itT); (focus first | assumption | exact SqT.of (by assumption) | exact SqT.of upd_same))
  | (with_reducible apply rd_lc)
  | (with_reducible apply rd_yes)
  | ((with_reducible apply u_pow); (focus (exact ⟨by decide, by decide, by decide⟩)))
  | (with_reducible apply u_mul; focus exact Or.inr cm)
  | (with_reducible apply rd_par3)
  | (with_reducible apply rd_par3_end)
  | ((with_reducible apply rd_aug); exact rfl)
  | (with_reducible apply rd_ipI)
  | (with_reducible apply rd_enA)
  | ((with_reducible apply u_enT); (focus first | assumption | exact SqT.of (by assumption) | exact SqT.of upd_same))
  | ((with_reducible apply u_enL); (focus first | assumption | exact SqL.of (by assumption) | exact SqL.of upd_same))
  | (with_reducible apply rd_zip)
  | (with_reducible apply rd_lc2)
  | ((with_reducible apply rd_gtup); (focus first | assumption | exact SqT.of (by assumption) | exact SqT.of upd_same); (focus rfl))
  | (with_reducible apply rd_dnew)
  | (with_reducible apply rd_din)
  | (with_reducible apply rd_dget)
  | (with_reducible apply rd_dput)
  | (with_reducible apply rd_disp1)
  | (with_reducible apply rd_sl)
  | (with_reducible apply rd_part)
  | (with_reducible apply rd_partI)
  | (with_reducible apply rd_nopart)
  | (with_reducible apply iteT)
  | (with_reducible apply iteF))
local macro_rules | `(tactic| walk_at "go") => `(tactic| repeat (walk_at "st"))
local macro_rules | `(tactic| walk_at "sp") => `(tactic| (first | refine rd_split (fun c => ?_) (fun c => ?_) | refine rd_splitN (fun c => ?_) (fun c => ?_) | refine rd_splitB (fun c => ?_) (fun c => ?_)))
local macro_rules | `(tactic| walk_at "nx") => `(tactic| repeat (first | (with_reducible apply iteF) | (with_reducible apply iteT) | (with_reducible apply rd_next)))

section
variable {P : Program} {w : World} {K : PySem.W.Frag} {mg : Str → Option Value} {base : Heap}
abbrev s_law_take : Stmt := top 14
theorem sc_law_take : FnScope ["source", "top", "digit"] ["source", "top"] (defScope s_law_take) := ⟨rfl, rfl, rfl, by decide +kernel, rfl, by decide +kernel, by decide +kernel⟩
theorem has_take (O : OwnF K mg "_law_take" s_law_take) (B : Bl mg) : HasF P w K mg base CX0 1 "_law_take" ["source", "top"] spTake := by
  refine has0 O sc_law_take (fun _ _ _ _ _ _ us hl => match us, hl with | [_, _], _ => rfl) (fun vs H Q E h => ?_) (fun f cdv A outer s_ H vs Q E hr h => ?_)
  · obtain ⟨a, t, rfl, _⟩ := h
    rfl
  obtain ⟨a, t, rfl, ⟨b, s, hS, hb, hs, hs2⟩, ht, ht2, q⟩ := h
  refine ⟨_, (pss_cons (ps_if (pt_cmpR gtU (pe_ix (kIx K) (pv 0) pe_int (fun _ _ => rfl)) pe_int (nomark _)) (pss_cons (ps_set (i := 2) sc_law_take.nd rfl (by first | exact Or.inl rfl | exact Or.inr rfl) (pe_op modU (pe_callTy intU (by rfl) B.int (by decide +kernel) (pa_cons (pe_ix (kIx K) (pv 0) pe_int (fun _ _ => rfl)) pa_nil)) (pv 1))) (pss_cons (ps_asg (pe_op divU (pe_ix (kIx K) (pv 0) pe_int (fun _ _ => rfl)) (pv 1)) (pg_sub (pv 0) pe_int set_list)) (pss_one (ps_ret (pv 2))))) pss_nil) (pss_cons (ps_asg (pe_op modU (pe_callTy intU (by rfl) B.int (by decide +kernel) (pa_cons (pe_op (kAdd K) (pe_op (kMul K) (pe_ix (kIx K) (pv 0) pe_int (fun _ _ => rfl)) pe_int) pe_int) pa_nil)) pe_int) (pg_sub (pv 0) pe_int set_list)) (pss_one (ps_ret (pe_op modU (pe_callTy intU (by rfl) B.int (by decide +kernel) (pa_cons (pe_op divU (pe_op modU (pe_callTy intU (by rfl) B.int (by decide +kernel) (pa_cons (pe_op (kMul K) (pe_ix (kIx K) (pv 0) pe_int (fun _ _ => rfl)) (pe_ix (kIx K) (pv 0) pe_int (fun _ _ => rfl))) pa_nil)) pe_int) pe_int) pa_nil)) (pv 1)))))), ?_⟩
  refine st0 [some (.ref a), some (.int t), none] rfl ?_
  walk_at "go"
  refine rd_split (fun c => ?_) (fun c => ?_)
  · walk_at "go"
    refine q _ _ SB.upd ⟨b / t, s, upd_same, Int.ediv_nonneg hb (by omega), hs, hs2⟩ (Int.emod_nonneg _ (by omega)) (Int.emod_lt_of_pos _ ht)
  · walk_at "go"
    refine q _ _ SB.upd ⟨b, _, upd_same, hb, Int.emod_nonneg _ (by omega), Int.emod_lt_of_pos _ (by omega)⟩ (Int.emod_nonneg _ (by omega)) (Int.emod_lt_of_pos _ ht)
abbrev s_law_one : Stmt := top 15
theorem sc_law_one : FnScope ["source", "things"] ["source", "things"] (defScope s_law_one) := ⟨rfl, rfl, rfl, by decide +kernel, rfl, by decide +kernel, by decide +kernel⟩
theorem has_one (O : OwnF K mg "_law_one" s_law_one) (B : Bl mg) (h_law_take : HasF P w K mg base CX0 1 "_law_take" ["source", "top"] spTake) : HasF P w K mg base CX0 2 "_law_one" ["source", "things"] (spOne K) := by
  refine has0 O sc_law_one (fun _ _ _ _ _ _ us hl => match us, hl with | [_, _], _ => rfl) (fun vs H Q E h => ?_) (fun f cdv A outer s_ H vs Q E hr h => ?_)
  · obtain ⟨a, p, xs, rfl, _⟩ := h
    rfl
  obtain ⟨a, p, xs, rfl, hS, hX, hn, h0, h1, q⟩ := h
  refine ⟨_, (pss_one (ps_ret (pe_ix (kIx K) (pv 1) (pe_callH h_law_take (hr.mono (by first | decide | omega)) (by rfl) pass0 (pa_cons (pv 0) (pa_cons (pe_callB (kLen K) (by rfl) B.len (by decide +kernel) (pa_cons (pv 1) pa_nil)) pa_nil))) (fun _ _ => rfl)))), ?_⟩
  refine st0 [some (.ref a), some (.ref p)] rfl ?_
  walk_at "go"
  refine use_take hS (by omega) (by omega) fun H' r hs hS' hr0 hr1 => ?_
  obtain ⟨v, e, m⟩ := at_in hr0 hr1
  exact u_ixL (hs.seqL hn hX) e (q _ _ hs hS' m)
abbrev s_law_pool : Stmt := top 13
theorem sc_law_pool : FnScope ["script", "k", "cell", "big", "stirred"] ["script", "k"] (defScope s_law_pool) := ⟨rfl, rfl, rfl, by decide +kernel, rfl, by decide +kernel, by decide +kernel⟩
def spPool (K : PySem.W.Frag) : Sp := fun vs H Q _ => ∃ (a : Addr) (ns : List Int) (k : Int), vs = [.ref a, .int k] ∧ SqL K H a (ns.map V.int) ∧ 0 ≤ k ∧ k < 1000 ∧
  ∀ (H' : Hp) (p : Addr), Same H H' → H p = none → Src H' p → Q (.ref p) H'
theorem has_pool (O : OwnF K mg "_law_pool" s_law_pool) (B : Bl mg) : HasF P w K mg base CX0 1 "_law_pool" ["script", "k"] (spPool K) := by
  refine has0 O sc_law_pool (fun _ _ _ _ _ _ us hl => match us, hl with | [_, _], _ => rfl) (fun vs H Q E h => ?_) (fun f cdv A outer s_ H vs Q E hr h => ?_)
  · obtain ⟨a, ns, k, rfl, _⟩ := h
    rfl
  obtain ⟨a, ns, k, rfl, hL, hk0, hk1, q⟩ := h
  have hl : (ns.map V.int).length = ns.length := List.length_map _
  refine ⟨_, (pss_cons (ps_set (i := 2) sc_law_pool.nd rfl (by first | exact Or.inl rfl | exact Or.inr rfl) pe_int) (pss_cons (ps_if (pt_cmpR ltU (pv 1) (pe_callB (kLen K) (by rfl) B.len (by decide +kernel) (pa_cons (pv 0) pa_nil)) (nomark _)) (pss_one (ps_set (i := 2) sc_law_pool.nd rfl (by first | exact Or.inl rfl | exact Or.inr rfl) (pe_ix (kIx K) (pv 0) (pv 1) (fun _ _ => rfl)))) (pss_one (ps_if (pt_truthK K (pv 0) (by intro _; rfl)) (pss_one (ps_set (i := 2) sc_law_pool.nd rfl (by first | exact Or.inl rfl | exact Or.inr rfl) (pe_ix (kIx K) (pv 0) pe_int (fun _ _ => rfl)))) pss_nil))) (pss_cons (ps_set (i := 3) sc_law_pool.nd rfl (by first | exact Or.inl rfl | exact Or.inr rfl) (pe_callB (max2U rfl) (by rfl) B.max (by decide +kernel) (pa_cons (pe_callTy intU (by rfl) B.int (by decide +kernel) (pa_cons (pv 2) pa_nil)) (pa_cons (pe_callTy intU (by rfl) B.int (by decide +kernel) (pa_cons (pe_op subU (pe_un un_neg pe_int) (pv 2)) pa_nil)) pa_nil)))) (pss_cons (ps_set (i := 4) sc_law_pool.nd rfl (by first | exact Or.inl rfl | exact Or.inr rfl) (pe_op modU (pe_callTy intU (by rfl) B.int (by decide +kernel) (pa_cons (pe_op (kMul K) (pe_op (kAdd K) (pe_op (kAdd K) (pe_op (kAdd K) (pe_op modU (pe_callTy intU (by rfl) B.int (by decide +kernel) (pa_cons (pv 3) pa_nil)) pe_int) (pe_op (kMul K) (pe_op (kMul K) pe_int (pv 1)) (pv 1))) (pe_op (kMul K) pe_int (pv 1))) pe_int) pe_int) pa_nil)) pe_int)) (pss_one (ps_ret (pe_lst (pa_cons (pe_op (kMul K) (pv 3) (pe_callTy intU (by rfl) B.int (by decide +kernel) (pa_cons (pe_cmpR geU (pv 3) (pe_op powU pe_int pe_int) (nomark _)) pa_nil))) (pa_cons (pv 4) pa_nil))))))))), ?_⟩
  refine st0 [some (.ref a), some (.int k), none, none, none] rfl ?_
  walk_at "go"
  rw [hl]
  refine rd_split (fun c => ?_) (fun c => ?_)
  rotate_left
  walk_at "go"
  refine rd_splitB (fun c2 => ?_) (fun c2 => ?_)
  rotate_left 2
  · obtain ⟨n, e⟩ := at_ints (ns := ns) hk0 c
    walk_at "go"
    refine u_ixL hL e ?_
    walk_at "go"
    refine ⟨lk rfl, fun p hp => ?_⟩
    refine q _ p (same_new hp _) hp ⟨_, _, upd_same, ?_, Int.emod_nonneg _ (by omega), Int.emod_lt_of_pos _ (by omega)⟩
    exact Int.mul_nonneg (by split <;> omega) (by split <;> omega)
  · have c3 := isE c2
    obtain ⟨n, e⟩ := at_ints (ns := ns) (i := 0) (by omega) (by omega)
    walk_at "go"
    refine u_ixL hL e ?_
    walk_at "go"
    refine ⟨lk rfl, fun p hp => ?_⟩
    refine q _ p (same_new hp _) hp ⟨_, _, upd_same, ?_, Int.emod_nonneg _ (by omega), Int.emod_lt_of_pos _ (by omega)⟩
    exact Int.mul_nonneg (by split <;> omega) (by split <;> omega)
  · walk_at "go"
    refine ⟨lk rfl, fun p hp => ?_⟩
    refine q _ p (same_new hp _) hp ⟨_, _, upd_same, ?_, Int.emod_nonneg _ (by omega), Int.emod_lt_of_pos _ (by omega)⟩
    exact Int.mul_nonneg (by split <;> omega) (by split <;> omega)
end
end Mine

/-! ### G1 -/
namespace Mine
open PySem PySem.Spec L2
local macro_rules | `(tactic| walk_at "st") => `(tactic| first
  | ((with_reducible apply rd_var); exact rfl)
  | (with_reducible apply rd_c)
  | (with_reducible apply rd_seq)
  | (with_reducible apply rd_asg)
  | (with_reducible apply rd_gname)
  | (with_reducible apply rd_op)
  | (with_reducible apply rd_cb)
  | (with_reducible apply rd_cons)
  | (with_reducible apply rd_nil)
  | (with_reducible apply rd_if)
  | (with_reducible apply rd_test)
  | (with_reducible apply rd_bl)
  | (with_reducible apply rd_retE)
  | (with_reducible apply rd_ret)
  | (with_reducible apply rd_call)
  | (with_reducible apply rd_tup)
  | (with_reducible apply rd_lst)
  | (with_reducible apply rd_drop)
  | (with_reducible apply rd_next)
  | (with_reducible apply rd_ife)
  | (with_reducible apply rd_gsub)
  | (with_reducible apply rd_par)
  | (with_reducible apply rd_par_end)
  | (with_reducible apply rd_un)
  | (with_reducible apply rd_and)
  | (with_reducible apply rd_or)
  | (with_reducible apply rd_not)
  | (with_reducible apply rd_andV)
  | (with_reducible apply rd_orV)
  | (with_reducible apply rd_notV)
  | (with_reducible apply rd_chain)
  | (with_reducible apply rd_tB)
  | (with_reducible apply rd_brk)
  | (with_reducible apply rd_ct)
  | (with_reducible apply u_add)
  | (with_reducible apply u_sub)
  | (with_reducible apply u_lt)
  | (with_reducible apply u_le)
  | (with_reducible apply u_gt)
  | (with_reducible apply u_ge)
  | (with_reducible apply u_eqI)
  | (with_reducible apply u_eqS)
  | (with_reducible apply u_neI)
  | (with_reducible apply u_int)
  | (with_reducible apply u_intB)
  | (with_reducible apply u_max)
  | (with_reducible apply u_min)
  | (with_reducible apply u_neg)
  | ((with_reducible apply u_mod); focus first | assumption | decide | omega)
  | ((with_reducible apply u_div); focus first | decide | omega | (constructor <;> first | assumption | omega))
  | ((with_reducible apply u_mul); focus first | exact Or.inl (by omega) | exact Or.inr (by omega) | exact Or.inl (by decide) | exact Or.inr (by decide))
  | ((with_reducible apply u_ixL); (focus (first | assumption | exact SqL.of (by assumption) | exact SqL.of upd_same)); exact rfl)
  | ((with_reducible apply u_lenL); focus (first | assumption | exact SqL.of (by assumption) | exact SqL.of upd_same))
  | ((with_reducible apply u_lenT); focus (first | assumption | exact SqT.of (by assumption) | exact SqT.of upd_same))
  | ((with_reducible apply u_setL); (focus (first | assumption | exact upd_same)); exact rfl)
  | (with_reducible apply rd_chain3)
  | (with_reducible apply rd_tru)
  | (with_reducible apply rd_truB)
  | ((with_reducible apply rd_truL); focus (first | assumption | exact SqL.of (by assumption) | exact SqL.of upd_same))
  | (with_reducible apply rd_bm)
  | (with_reducible apply rd_bm0)
  | ((with_reducible apply rd_tyL); focus (first | exact SqL.of (by assumption) | exact SqL.of upd_same))
  | (with_reducible apply u_min3)
  | (with_reducible apply rd_rev)
  | (with_reducible apply rd_iList)
  | (with_reducible apply rd_iTup)
  | (with_reducible apply rd_for)
  | (with_reducible apply rd_rng1)
  | (with_reducible apply rd_rng2)
  | ((with_reducible apply rd_rng1e); (focus omega); (focus omega))
  | ((with_reducible apply rd_rng2e); (focus omega))
  | (with_reducible apply rd_gcons)
  | (with_reducible apply rd_gnil)
  | (with_reducible apply rd_retN)
  | (with_reducible apply g_eqI)
  | (with_reducible apply g_eqS)
  | (with_reducible apply g_neI)
  | (with_reducible apply g_neS)
  | (with_reducible apply g_neB)
  | (with_reducible apply rd_xf)
  | (with_reducible apply rd_raiseE)
  | (with_reducible apply rd_callS)
  | (with_reducible apply u_inD)
  | (with_reducible apply u_notInD)
  | (with_reducible apply u_inS)
  | (with_reducible apply u_notInS)
  | (with_reducible apply rd_iSeq)
  | ((with_reducible apply rd_seqL); (focus first | assumption | exact SqL.of (by assumption) | exact SqL.of upd_same))
  | ((with_reducible apply rd_seqT); (focus first | assumption | exact SqT.of (by assumption) | exact SqT.of upd_same))
  | (with_reducible apply rd_istr)
  | (with_reducible apply rd_istrE)
  | ((with_reducible apply u_isi); (focus (first | exact Or.inl rfl | exact Or.inr (Or.inl rfl) | exact Or.inr (Or.inr (Or.inl rfl)) | exact Or.inr (Or.inr (Or.inr rfl)))); (focus first | assumption | exact Rp.int _ | exact Rp.str _))
  | ((with_reducible apply rd_itL); (focus first | assumption | exact SqL.of (by assumption) | exact SqL.of upd_same))
  | ((with_reducible apply rd_itT); (focus first | assumption | exact SqT.of (by assumption) | exact SqT.of upd_same))
  | (with_reducible apply rd_lc)
  | (with_reducible apply rd_yes)
  | ((with_reducible apply u_pow); (focus (exact ⟨by decide, by decide, by decide⟩)))
  | (with_reducible apply u_mul; focus exact Or.inr cm)
  | (with_reducible apply rd_par3)
  | (with_reducible apply rd_par3_end)
  | ((with_reducible apply rd_aug); exact rfl)
  | (with_reducible apply rd_ipI)
  | (with_reducible apply rd_enA)
  | ((with_reducible apply u_enT); (focus first | assumption | exact SqT.of (by assumption) | exact SqT.of upd_same))
  | ((with_reducible apply u_enL); (focus first | assumption | exact SqL.of (by assumption) | exact SqL.of upd_same))
  | (with_reducible apply rd_zip)
  | (with_reducible apply rd_lc2)
  | ((with_reducible apply rd_gtup); (focus first | assumption | exact SqT.of (by assumption) | exact SqT.of upd_same); (focus rfl))
  | (with_reducible apply rd_dnew)
  | (with_reducible apply rd_din)
  | (with_reducible apply rd_dget)
  | (with_reducible apply rd_dput)
  | (with_reducible apply rd_disp1)
  | (with_reducible apply rd_sl)
  | (with_reducible apply rd_part)
  | (with_reducible apply rd_partI)
  | (with_reducible apply rd_nopart)
  | (with_reducible apply iteT)
  | (with_reducible apply iteF))
local macro_rules | `(tactic| walk_at "go") => `(tactic| repeat (walk_at "st"))
local macro_rules | `(tactic| walk_at "sp") => `(tactic| (first | refine rd_split (fun c => ?_) (fun c => ?_) | refine rd_splitN (fun c => ?_) (fun c => ?_) | refine rd_splitB (fun c => ?_) (fun c => ?_)))
local macro_rules | `(tactic| walk_at "nx") => `(tactic| repeat (first | (with_reducible apply iteF) | (with_reducible apply iteT) | (with_reducible apply rd_next)))

section
variable {P : Program} {w : World} {K : PySem.W.Frag} {mg : Str → Option Value} {base : Heap}
def spNum (K : PySem.W.Frag) : Sp := fun vs H Q _ => ∃ (v : V) (d : PyData), vs = [v] ∧ Rp K H v d ∧ Q (.bl (isNum d)) H
theorem use_num {K : PySem.W.Frag} {v : V} {d : PyData} {H : Hp} {Q : VK} {E : XK} (r : Rp K H v d) (q : Q (.bl (isNum d)) H) : spNum K [v] H Q E := ⟨v, d, rfl, r, q⟩
abbrev s_is_number : Stmt := top 4
theorem sc_is_number : FnScope ["thing"] ["thing"] (defScope s_is_number) := ⟨rfl, rfl, rfl, by decide +kernel, rfl, by decide +kernel, by decide +kernel⟩
theorem has_is_number (O : OwnF K mg "is_number" s_is_number) (B : Bl mg) : HasF P w K mg base CX0 1 "is_number" ["thing"] (spNum K) := by
  refine has0 O sc_is_number (fun _ _ _ _ _ _ us hl => match us, hl with | [_], _ => rfl) (fun vs H Q E h => ?_) (fun f cdv A outer s_ H vs Q E hr h => ?_)
  · obtain ⟨v, d, rfl, _⟩ := h
    rfl
  obtain ⟨v, d, rfl, r, q⟩ := h
  refine ⟨_, (pss_one (ps_ret (pe_and (pe_callB (kIsi K) (by rfl) B.isinstance (by decide +kernel) (pa_cons (pv 0) (pa_cons (pe_bltn (v := .ty "int") (by rfl) B.int (by decide +kernel) rfl) pa_nil))) (pe_one (pe_not (pe_callB (kIsi K) (by rfl) B.isinstance (by decide +kernel) (pa_cons (pv 0) (pa_cons (pe_bltn (v := .ty "bool") (by rfl) B.bool (by decide +kernel) rfl) pa_nil)))))))), ?_⟩
  refine st0 [some v] rfl ?_
  walk_at "go"
  refine rd_splitB (fun c => ?_) (fun c => ?_)
  · walk_at "go"
    have e : (!isT "bool" d) = isNum d := by cases d <;> simp_all [isT, isNum]
    rw [e]; exact q
  · have e : false = isNum d := by cases d <;> simp_all [isT, isNum]
    rw [e]; exact q
def isCnt : PyData → Bool
  | .int i => decide (0 ≤ i)
  | _ => false
def spCt (K : PySem.W.Frag) : Sp := fun vs H Q _ => ∃ (v : V) (d : PyData), vs = [v] ∧ Rp K H v d ∧ Q (.bl (isCnt d)) H
theorem use_ct {K : PySem.W.Frag} {v : V} {d : PyData} {H : Hp} {Q : VK} {E : XK} (r : Rp K H v d) (q : Q (.bl (isCnt d)) H) : spCt K [v] H Q E := ⟨v, d, rfl, r, q⟩
abbrev s_is_count : Stmt := top 5
theorem sc_is_count : FnScope ["thing"] ["thing"] (defScope s_is_count) := ⟨rfl, rfl, rfl, by decide +kernel, rfl, by decide +kernel, by decide +kernel⟩
theorem has_is_count (O : OwnF K mg "is_count" s_is_count) (h_is_number : HasF P w K mg base CX0 1 "is_number" ["thing"] (spNum K)) : HasF P w K mg base CX0 2 "is_count" ["thing"] (spCt K) := by
  refine has0 O sc_is_count (fun _ _ _ _ _ _ us hl => match us, hl with | [_], _ => rfl) (fun vs H Q E h => ?_) (fun f cdv A outer s_ H vs Q E hr h => ?_)
  · obtain ⟨v, d, rfl, _⟩ := h
    rfl
  obtain ⟨v, d, rfl, r, q⟩ := h
  refine ⟨_, (pss_one (ps_ret (pe_and (pe_callH h_is_number (hr.mono (by first | decide | omega)) (by rfl) pass0 (pa_cons (pv 0) pa_nil)) (pe_one (pe_cmpR geU (pv 0) pe_int (nomark _)))))), ?_⟩
  refine st0 [some v] rfl ?_
  walk_at "go"
  refine use_num r ?_
  walk_at "go"
  cases r with
  | int i =>
    refine iteT ?_
    walk_at "go"
    exact q
  | non => exact iteF q
  | bl b => exact iteF q
  | str z => exact iteF q
  | tup s t => exact iteF q
def isTupD : PyData → Bool
  | .tuple _ => true
  | _ => false
/-- an entry of a run -/
def isEnt : PyData → Bool
  | .tuple [a, b, c] => isCnt a && (isCnt b && isTupD c)
  | _ => false
def spEn (K : PySem.W.Frag) : Sp := fun vs H Q _ => ∃ (v : V) (d : PyData), vs = [v] ∧ Rp K H v d ∧ Q (.bl (isEnt d)) H
theorem use_en {K : PySem.W.Frag} {v : V} {d : PyData} {H : Hp} {Q : VK} {E : XK} (r : Rp K H v d) (q : Q (.bl (isEnt d)) H) : spEn K [v] H Q E := ⟨v, d, rfl, r, q⟩
abbrev s_is_entry : Stmt := top 7
theorem sc_is_entry : FnScope ["thing"] ["thing"] (defScope s_is_entry) := ⟨rfl, rfl, rfl, by decide +kernel, rfl, by decide +kernel, by decide +kernel⟩
theorem has_is_entry (O : OwnF K mg "is_entry" s_is_entry) (B : Bl mg) (h_is_count : HasF P w K mg base CX0 2 "is_count" ["thing"] (spCt K)) : HasF P w K mg base CX0 3 "is_entry" ["thing"] (spEn K) := by
  refine has0 O sc_is_entry (fun _ _ _ _ _ _ us hl => match us, hl with | [_], _ => rfl) (fun vs H Q E h => ?_) (fun f cdv A outer s_ H vs Q E hr h => ?_)
  · obtain ⟨v, d, rfl, _⟩ := h
    rfl
  obtain ⟨v, d, rfl, r, q⟩ := h
  refine ⟨_, (pss_cons (ps_if (PW.pt (pw_or (pt_not (pt_val (pe_callB (kIsi K) (by rfl) B.isinstance (by decide +kernel) (pa_cons (pv 0) (pa_cons (pe_bltn (v := .ty "tuple") (by rfl) B.tuple (by decide +kernel) rfl) pa_nil))))) (pw_or1 (pt_cmpR (kNeG K (hU hr)) (pe_callB (kLen K) (by rfl) B.len (by decide +kernel) (pa_cons (pv 0) pa_nil)) pe_int (nomark _))))) (pss_one (ps_ret pe_bl)) pss_nil) (pss_one (ps_ret (pe_and (pe_callH h_is_count (hr.mono (by first | decide | omega)) (by rfl) pass0 (pa_cons (pe_ix (kIx K) (pv 0) pe_int (fun _ _ => rfl)) pa_nil)) (pe_and (pe_callH h_is_count (hr.mono (by first | decide | omega)) (by rfl) pass0 (pa_cons (pe_ix (kIx K) (pv 0) pe_int (fun _ _ => rfl)) pa_nil)) (pe_one (pe_callB (kIsi K) (by rfl) B.isinstance (by decide +kernel) (pa_cons (pe_ix (kIx K) (pv 0) pe_int (fun _ _ => rfl)) (pa_cons (pe_bltn (v := .ty "tuple") (by rfl) B.tuple (by decide +kernel) rfl) pa_nil))))))))), ?_⟩
  refine st0 [some v] rfl ?_
  walk_at "go"
  cases r with
  | @tup a xs ds hs hR =>
    refine iteF ?_
    walk_at "go"
    refine rd_splitN (fun c => ?_) (fun c => ?_)
    · walk_at "go"
      have e : false = isEnt (.tuple ds) := by
        rw [hR.length] at c
        match ds, c with
        | [], _ => rfl
        | [x], _ => rfl
        | [x, y], _ => rfl
        | [_, _, _], c => exact absurd rfl c
        | x :: y :: z :: _ :: _, _ => rfl
      rw [e]; exact q
    · obtain ⟨x, y, z, d, e, f, rfl, rfl, r1, r2, r3⟩ := hR.three c
      have q' : Q (.bl (isCnt d && (isCnt e && isTupD f))) H := q
      walk_at "go"
      refine u_ixT hs rfl ?_
      walk_at "go"
      refine use_ct r1 ?_
      refine ⟨_, rfl, ?_⟩
      refine rd_splitB (fun c1 => ?_) (fun c1 => ?_)
      · rw [c1, Bool.true_and] at q'
        walk_at "go"
        refine u_ixT hs rfl ?_
        walk_at "go"
        refine use_ct r2 ?_
        refine ⟨_, rfl, ?_⟩
        refine rd_splitB (fun c2 => ?_) (fun c2 => ?_)
        · rw [c2, Bool.true_and] at q'
          walk_at "go"
          refine u_ixT hs rfl ?_
          walk_at "go"
          have e3 : isT "tuple" f = isTupD f := by cases f <;> rfl
          rw [e3]; exact q'
        · rw [c2, Bool.false_and] at q'
          exact q'
      · rw [c1, Bool.false_and] at q'
        exact q'
  | non => refine iteT ?_; walk_at "go"; exact q
  | bl b => refine iteT ?_; walk_at "go"; exact q
  | int i => refine iteT ?_; walk_at "go"; exact q
  | str z => refine iteT ?_; walk_at "go"; exact q
def Raised (E : XK) (H : Hp) (C : Addr) (n : Int) : Prop := ∀ (H' : Hp) (d : Addr), Same H H' → H' d = some (.xd [("what", .int n)]) → E (.ref C) (some d) H'
theorem Raised.mono {E : XK} {H H1 : Hp} {C : Addr} {n : Int} (h : Raised E H C n) (s : Same H H1) : Raised E H1 C n := fun H' d s' e => h H' d (s.trans s') e
/-- the first thing that is no entry -/
def firstBad (ds : List PyData) (i : Nat) : Prop := (∀ k d, k < i → ds[k]? = some d → isEnt d = true) ∧ ∃ d, ds[i]? = some d ∧ isEnt d = false
def spRun (K : PySem.W.Frag) (cB : Addr) : Sp := fun vs H Q E => ∃ (a : Addr) (xs : List V) (ds : List PyData), vs = [.ref a] ∧ SqT K H a xs ∧ Rps K H xs ds ∧
  (∀ i, firstBad ds i → Raised E H cB i) ∧ ((∀ d ∈ ds, isEnt d = true) → ∀ H', Same H H' → Q .non H')
abbrev s_check_run : Stmt := top 8
theorem sc_check_run : FnScope ["run", "index", "entry"] ["run"] (defScope s_check_run) := ⟨rfl, rfl, rfl, by decide +kernel, rfl, by decide +kernel, by decide +kernel⟩
theorem has_check_run {fI cB : Addr} (O : OwnF K mg "check_run" s_check_run) (B : Bl mg) (hI : InitF P w K mg base fI) (M_BadRow : ErrC K mg fI "BadRow" cB) (h_is_entry : HasF P w K mg base CX0 3 "is_entry" ["thing"] (spEn K)) : HasF P w K mg base (L2.CX P w) 4 "check_run" ["run"] (spRun K cB) := by
  refine hasX O sc_check_run (fun _ _ _ _ _ _ us hl => match us, hl with | [_], _ => rfl) (fun vs H Q E h => ?_) (fun f cdv A outer s_ H vs Q E hr h => ?_)
  · obtain ⟨a, xs, ds, rfl, _⟩ := h
    rfl
  obtain ⟨a, xs, ds, rfl, hs, hR, h1, h2⟩ := h
  refine ⟨_, (pss_one (ps_for poX rfl (pi_enAK K (by rfl) B.enumerate (pa_cons (pv 0) pa_nil)) (pg_tupK (n := 2) K rfl (pgs_cons (pg_name (i := 1) sc_check_run.nd rfl (by first | exact Or.inl rfl | exact Or.inr rfl)) (pgs_cons (pg_name (i := 2) sc_check_run.nd rfl (by first | exact Or.inl rfl | exact Or.inr rfl)) pgs_nil))) (pss_one (ps_if (pt_not (pt_val (pe_callH h_is_entry (hr.mono (by first | decide | omega)) (by rfl) pass0 (pa_cons (pv 2) pa_nil)))) (pss_one (ps_raiseE K hI M_BadRow rfl (hr.mono (by decide)) tkX (pv 1) (by rfl))) pss_nil)))), ?_⟩
  refine st0 [some (.ref a), none, none] rfl ?_
  walk_at "go"
  refine HE.forET (xs := xs) (fun i σ H' => ∃ (o1 o2 : Option V), σ = [some (.ref a), o1, o2] ∧ Same H H' ∧ ∀ k d, k < i → ds[k]? = some d → isEnt d = true) ⟨_, _, rfl, Same.refl _, fun k d hk => absurd hk (Nat.not_lt_zero _)⟩ ?_ ?_ ?_
  · rintro i σ H' hi ⟨o1, o2, rfl, s1, _⟩
    exact Ext.of_same s1 _ _ hs
  · rintro i x t σ H' hx ⟨o1, o2, rfl, s1, hk⟩ ht
    have s2 := Same.new (o := .tup [.int (i : Nat), x]) s1 ht
    walk_at "go"
    obtain ⟨d, hd, rd⟩ := hR.getV hx
    refine use_en (rd.mono (Ext.of_same s2) _ _) ?_
    walk_at "go"
    cases he : isEnt d with
    | true =>
      refine iteF ?_
      walk_at "go"
      refine ⟨_, _, rfl, s2, fun k e hlt hke => ?_⟩
      by_cases z : k < i
      · exact hk k e z hke
      · have : k = i := by omega
        subst this
        rw [hd] at hke
        cases hke
        exact he
    | false =>
      refine iteT ?_
      walk_at "go"
      exact u_raise M_BadRow.c M_BadRow.n fun d' hd' => h1 i ⟨hk, d, hd, he⟩ _ d' (Same.new s2 hd') upd_same
  · rintro σ H' ⟨o1, o2, rfl, s1, hk⟩
    walk_at "go"
    refine h2 (fun d hd => ?_) _ s1
    obtain ⟨k, ek⟩ := List.getElem?_of_mem hd
    refine hk k d ?_ ek
    rw [hR.length]
    rcases Nat.lt_or_ge k ds.length with z | z
    · exact z
    · rw [List.getElem?_eq_none z] at ek
      cases ek
end
end Mine

/-! ### G2 -/
namespace Mine
open PySem PySem.Spec L2
local macro_rules | `(tactic| walk_at "st") => `(tactic| first
  | ((with_reducible apply rd_var); exact rfl)
  | (with_reducible apply rd_c)
  | (with_reducible apply rd_seq)
  | (with_reducible apply rd_asg)
  | (with_reducible apply rd_gname)
  | (with_reducible apply rd_op)
  | (with_reducible apply rd_cb)
  | (with_reducible apply rd_cons)
  | (with_reducible apply rd_nil)
  | (with_reducible apply rd_if)
  | (with_reducible apply rd_test)
  | (with_reducible apply rd_bl)
  | (with_reducible apply rd_retE)
  | (with_reducible apply rd_ret)
  | (with_reducible apply rd_call)
  | (with_reducible apply rd_tup)
  | (with_reducible apply rd_lst)
  | (with_reducible apply rd_drop)
  | (with_reducible apply rd_next)
  | (with_reducible apply rd_ife)
  | (with_reducible apply rd_gsub)
  | (with_reducible apply rd_par)
  | (with_reducible apply rd_par_end)
  | (with_reducible apply rd_un)
  | (with_reducible apply rd_and)
  | (with_reducible apply rd_or)
  | (with_reducible apply rd_not)
  | (with_reducible apply rd_andV)
  | (with_reducible apply rd_orV)
  | (with_reducible apply rd_notV)
  | (with_reducible apply rd_chain)
  | (with_reducible apply rd_tB)
  | (with_reducible apply rd_brk)
  | (with_reducible apply rd_ct)
  | (with_reducible apply u_add)
  | (with_reducible apply u_sub)
  | (with_reducible apply u_lt)
  | (with_reducible apply u_le)
  | (with_reducible apply u_gt)
  | (with_reducible apply u_ge)
  | (with_reducible apply u_eqI)
  | (with_reducible apply u_eqS)
  | (with_reducible apply u_neI)
  | (with_reducible apply u_int)
  | (with_reducible apply u_intB)
  | (with_reducible apply u_max)
  | (with_reducible apply u_min)
  | (with_reducible apply u_neg)
  | ((with_reducible apply u_mod); focus first | assumption | decide | omega)
  | ((with_reducible apply u_div); focus first | decide | omega | (constructor <;> first | assumption | omega))
  | ((with_reducible apply u_mul); focus first | exact Or.inl (by omega) | exact Or.inr (by omega) | exact Or.inl (by decide) | exact Or.inr (by decide))
  | ((with_reducible apply u_ixL); (focus (first | assumption | exact SqL.of (by assumption) | exact SqL.of upd_same)); exact rfl)
  | ((with_reducible apply u_lenL); focus (first | assumption | exact SqL.of (by assumption) | exact SqL.of upd_same))
  | ((with_reducible apply u_lenT); focus (first | assumption | exact SqT.of (by assumption) | exact SqT.of upd_same))
  | ((with_reducible apply u_setL); (focus (first | assumption | exact upd_same)); exact rfl)
  | (with_reducible apply rd_chain3)
  | (with_reducible apply rd_tru)
  | (with_reducible apply rd_truB)
  | ((with_reducible apply rd_truL); focus (first | assumption | exact SqL.of (by assumption) | exact SqL.of upd_same))
  | (with_reducible apply rd_bm)
  | (with_reducible apply rd_bm0)
  | ((with_reducible apply rd_tyL); focus (first | exact SqL.of (by assumption) | exact SqL.of upd_same))
  | (with_reducible apply u_min3)
  | (with_reducible apply rd_rev)
  | (with_reducible apply rd_iList)
  | (with_reducible apply rd_iTup)
  | (with_reducible apply rd_for)
  | (with_reducible apply rd_rng1)
  | (with_reducible apply rd_rng2)
  | ((with_reducible apply rd_rng1e); (focus omega); (focus omega))
  | ((with_reducible apply rd_rng2e); (focus omega))
  | (with_reducible apply rd_gcons)
  | (with_reducible apply rd_gnil)
  | (with_reducible apply rd_retN)
  | (with_reducible apply g_eqI)
  | (with_reducible apply g_eqS)
  | (with_reducible apply g_neI)
  | (with_reducible apply g_neS)
  | (with_reducible apply g_neB)
  | (with_reducible apply rd_xf)
  | (with_reducible apply rd_raiseE)
  | (with_reducible apply rd_callS)
  | (with_reducible apply u_inD)
  | (with_reducible apply u_notInD)
  | (with_reducible apply u_inS)
  | (with_reducible apply u_notInS)
  | (with_reducible apply rd_iSeq)
  | ((with_reducible apply rd_seqL); (focus first | assumption | exact SqL.of (by assumption) | exact SqL.of upd_same))
  | ((with_reducible apply rd_seqT); (focus first | assumption | exact SqT.of (by assumption) | exact SqT.of upd_same))
  | (with_reducible apply rd_istr)
  | (with_reducible apply rd_istrE)
  | ((with_reducible apply u_isi); (focus (first | exact Or.inl rfl | exact Or.inr (Or.inl rfl) | exact Or.inr (Or.inr (Or.inl rfl)) | exact Or.inr (Or.inr (Or.inr rfl)))); (focus first | assumption | exact Rp.int _ | exact Rp.str _))
  | ((with_reducible apply rd_itL); (focus first | assumption | exact SqL.of (by assumption) | exact SqL.of upd_same))
  | ((with_reducible apply rd_itT); (focus first | assumption | exact SqT.of (by assumption) | exact SqT.of upd_same))
  | (with_reducible apply rd_lc)
  | (with_reducible apply rd_yes)
  | ((with_reducible apply u_pow); (focus (exact ⟨by decide, by decide, by decide⟩)))
  | (with_reducible apply u_mul; focus exact Or.inr cm)
  | (with_reducible apply rd_par3)
  | (with_reducible apply rd_par3_end)
  | ((with_reducible apply rd_aug); exact rfl)
  | (with_reducible apply rd_ipI)
  | (with_reducible apply rd_enA)
  | ((with_reducible apply u_enT); (focus first | assumption | exact SqT.of (by assumption) | exact SqT.of upd_same))
  | ((with_reducible apply u_enL); (focus first | assumption | exact SqL.of (by assumption) | exact SqL.of upd_same))
  | (with_reducible apply rd_zip)
  | (with_reducible apply rd_lc2)
  | ((with_reducible apply rd_gtup); (focus first | assumption | exact SqT.of (by assumption) | exact SqT.of upd_same); (focus rfl))
  | (with_reducible apply rd_dnew)
  | (with_reducible apply rd_din)
  | (with_reducible apply rd_dget)
  | (with_reducible apply rd_dput)
  | (with_reducible apply rd_disp1)
  | (with_reducible apply rd_sl)
  | (with_reducible apply rd_part)
  | (with_reducible apply rd_partI)
  | (with_reducible apply rd_nopart)
  | (with_reducible apply iteT)
  | (with_reducible apply iteF))
local macro_rules | `(tactic| walk_at "go") => `(tactic| repeat (walk_at "st"))
local macro_rules | `(tactic| walk_at "sp") => `(tactic| (first | refine rd_split (fun c => ?_) (fun c => ?_) | refine rd_splitN (fun c => ?_) (fun c => ?_) | refine rd_splitB (fun c => ?_) (fun c => ?_)))
local macro_rules | `(tactic| walk_at "nx") => `(tactic| repeat (first | (with_reducible apply iteF) | (with_reducible apply iteT) | (with_reducible apply rd_next)))

section
variable {P : Program} {w : World} {K : PySem.W.Frag} {mg : Str → Option Value} {base : Heap}
def Ent.py (e : Ent) : PyData := .tuple [.int e.n, .int e.h, .tuple (e.s.map PyData.int)]
/-- the stack of the blocks: hill, valley, the index of the first entry -/
def cutPy (o : Nat) : List Bk → List PyData
  | [] => []
  | b :: r => .tuple [.int b.H, .int b.V, .int o] :: cutPy (o + b.es.length) r
theorem cutPy_append : ∀ (o : Nat) (a b : List Bk), cutPy o (a ++ b) = cutPy o a ++ cutPy (o + (fl a).length) b
  | o, [], b => by simp [cutPy, fl]
  | o, x :: r, b => by
    rw [List.cons_append, cutPy, cutPy, cutPy_append, fl_cons, List.length_append, Nat.add_assoc]
    rfl
theorem cutPy_len : ∀ (o : Nat) (a : List Bk), (cutPy o a).length = a.length
  | _, [] => rfl
  | o, b :: r => by rw [cutPy, List.length_cons, List.length_cons, cutPy_len]
theorem Rps.intList {K : PySem.W.Frag} {H : Hp} : ∀ {xs : List V} {ns : List Int}, Rps K H xs (ns.map PyData.int) → xs = ns.map V.int
  | _, [], .nil => rfl
  | _, n :: r, .cons h t => by
    cases h
    rw [Rps.intList (ns := r) t] <;> rfl
theorem Rp.ent {K : PySem.W.Frag} {H : Hp} {v : V} {e : Ent} (r : Rp K H v e.py) : ∃ a b, v = .ref a ∧ SqT K H a [.int e.n, .int e.h, .ref b] ∧ SqT K H b (e.s.map V.int) := by
  unfold Ent.py at r
  cases r with
  | @tup a xs ds hs hR =>
    obtain ⟨x, y, z, d1, d2, d3, rfl, ed, r1, r2, r3⟩ := hR.three (by rw [hR.length] <;> rfl)
    cases ed
    cases r1
    cases r2
    cases r3 with
    | @tup b ys es hb hE =>
      rw [Rps.intList hE] at hb
      exact ⟨a, b, rfl, hs, hb⟩
theorem Rp.tri {K : PySem.W.Frag} {H : Hp} {v : V} {i j k : Int} (r : Rp K H v (.tuple [.int i, .int j, .int k])) : ∃ a, v = .ref a ∧ SqT K H a [.int i, .int j, .int k] := by
  cases r with
  | @tup a xs ds hs hR =>
    obtain ⟨x, y, z, d1, d2, d3, rfl, ed, r1, r2, r3⟩ := hR.three (by rw [hR.length] <;> rfl)
    cases ed
    cases r1
    cases r2
    cases r3
    exact ⟨a, rfl, hs⟩
theorem at_last {ws : List V} {v : V} : atI (ws ++ [v]) (-1) = some v := by
  unfold atI ixN
  rw [if_neg (by decide), if_pos (by rw [List.length_append]; show -((ws.length + 1 : Nat) : Int) ≤ -1; omega)]
  show (ws ++ [v])[(-1 + ((ws ++ [v]).length : Int)).toNat]? = some v
  rw [List.length_append, show (-1 + ((ws.length + [v].length : Nat) : Int)).toNat = ws.length by show (-1 + ((ws.length + 1 : Nat) : Int)).toNat = ws.length; omega]
  simp
theorem Good.card : ∀ {bs : List Bk}, Good bs → bs.length ≤ (fl bs).length
  | [], _ => Nat.le_refl _
  | b :: r, h => by
    have i1 := h.len
    have i2 := h.tail.card
    rw [fl_cons, List.length_append, List.length_cons]
    omega
theorem push_end {K : PySem.W.Frag} {H H3 : Hp} {p p2 : Addr} {ws : List V} {bs : List Bk} {nb : Bk} {es : List Ent} {i : Nat} {v : Int} (hp : H p = none) (s3 : Same H H3) (k1 : H3 p = some (.lst ws)) (k2 : Rps K H3 ws (cutPy 0 bs)) (k3 : Good bs) (k4 : Way bs nb) (k5 : nb.V = v)
    (k6 : fl bs ++ nb.es = es.take (i + 1)) (c : ∀ t, bs.getLast? = some t → nb.H < t.H ∧ t.V < nb.V) (hp2 : H3 p2 = none) :
    Same H (upd (upd H3 p2 (.tup [.int nb.H, .int v, .int ((fl bs).length : Nat)])) p (.lst (ws ++ [.ref p2]))) ∧ (upd (upd H3 p2 (.tup [.int nb.H, .int v, .int ((fl bs).length : Nat)])) p (.lst (ws ++ [.ref p2]))) p = some (.lst (ws ++ [.ref p2])) ∧
      Rps K (upd (upd H3 p2 (.tup [.int nb.H, .int v, .int ((fl bs).length : Nat)])) p (.lst (ws ++ [.ref p2]))) (ws ++ [.ref p2]) (cutPy 0 (bs ++ [nb])) ∧ Good (bs ++ [nb]) ∧ fl (bs ++ [nb]) = es.take (i + 1) := by
  subst k5
  have n1 : p ≠ p2 := ne_of_none k1 hp2
  have e1 : (upd H3 p2 (.tup [.int nb.H, .int nb.V, .int ((fl bs).length : Nat)])) p = some (.lst ws) := by rw [upd_ne n1]; exact k1
  have x1 : Ext K H3 (upd (upd H3 p2 (.tup [.int nb.H, .int nb.V, .int ((fl bs).length : Nat)])) p (.lst (ws ++ [.ref p2]))) := (Ext.new hp2).trans (Ext.set e1 trivial)
  refine ⟨Same.upd_new (Same.new s3 hp2) hp, upd_same, ?_, k3.push k4 c, by rw [fl_append, fl_one]; exact k6⟩
  rw [cutPy_append]
  refine (k2.mono x1 _ _).append ?_
  refine .one (.tup (SqT.of (by rw [upd_ne n1.symm]; exact upd_same)) ?_)
  rw [Nat.zero_add]
  exact .cons (.int _) (.cons (.int _) (.cons (.int _) .nil))
def spCut (K : PySem.W.Frag) : Sp := fun vs H Q _ => ∃ (a : Addr) (xs : List V) (es : List Ent), vs = [.ref a] ∧ SqT K H a xs ∧ Rps K H xs (es.map Ent.py) ∧ es.length ≤ 1000 ∧
  ∀ (H' : Hp) (p : Addr) (ws : List V) (bs : List Bk), Same H H' → H p = none → H' p = some (.lst ws) → Rps K H' ws (cutPy 0 bs) → Good bs → fl bs = es → Q (.ref p) H'
abbrev s_cut_up : Stmt := top 9
theorem sc_cut_up : FnScope ["run", "found", "index", "needed", "held", "_", "hill", "first", "before"] ["run"] (defScope s_cut_up) := ⟨rfl, rfl, rfl, by decide +kernel, rfl, by decide +kernel, by decide +kernel⟩
theorem has_cut_up (O : OwnF K mg "cut_up" s_cut_up) (B : Bl mg) : HasF P w K mg base CX0 1 "cut_up" ["run"] (spCut K) := by
  refine has0 O sc_cut_up (fun _ _ _ _ _ _ us hl => match us, hl with | [_], _ => rfl) (fun vs H Q E h => ?_) (fun f cdv A outer s_ H vs Q E hr h => ?_)
  · obtain ⟨a, xs, es, rfl, _⟩ := h
    rfl
  obtain ⟨a, xs, es, rfl, hs, hR, hl, q⟩ := h
  refine ⟨_, (pss_cons (ps_set (i := 1) sc_cut_up.nd rfl (by first | exact Or.inl rfl | exact Or.inr rfl) (pe_lst pa_nil)) (pss_cons (ps_for PassesOwn.never rfl (pi_enAK K (by rfl) B.enumerate (pa_cons (pv 0) pa_nil)) (pg_tupK (n := 2) K rfl (pgs_cons (pg_name (i := 2) sc_cut_up.nd rfl (by first | exact Or.inl rfl | exact Or.inr rfl)) (pgs_cons (pg_tupK (n := 3) K rfl (pgs_cons (pg_name (i := 3) sc_cut_up.nd rfl (by first | exact Or.inl rfl | exact Or.inr rfl)) (pgs_cons (pg_name (i := 4) sc_cut_up.nd rfl (by first | exact Or.inl rfl | exact Or.inr rfl)) (pgs_cons (pg_name (i := 5) sc_cut_up.nd rfl (by first | exact Or.inl rfl | exact Or.inr rfl)) pgs_nil)))) pgs_nil))) (pss_cons (ps_set (i := 6) sc_cut_up.nd rfl (by first | exact Or.inl rfl | exact Or.inr rfl) (pv 3)) (pss_cons (ps_set (i := 7) sc_cut_up.nd rfl (by first | exact Or.inl rfl | exact Or.inr rfl) (pv 2)) (pss_cons (ps_while PassesOwn.never (PW.pt (pw_and (pt_truthK K (pv 1) (by intro _; rfl)) (pw_and1 (PW.pt (pw_or (pt_cmpR leU (pe_ix (kIx K) (pe_ix (kIx K) (pv 1) (pe_un un_neg pe_int) (fun _ _ => rfl)) pe_int (fun _ _ => rfl)) (pv 6) (nomark _)) (pw_or1 (pt_cmpR geU (pe_ix (kIx K) (pe_ix (kIx K) (pv 1) (pe_un un_neg pe_int) (fun _ _ => rfl)) pe_int (fun _ _ => rfl)) (pv 4) (nomark _)))))))) (pss_cons (ps_asg (pe_bm0K K PySem.F.plainAttrs_list PySem.F.slot_list_pop PySem.F.type_list_pop mt_pop (pv 1)) (pg_tupK (n := 3) K rfl (pgs_cons (pg_name (i := 8) sc_cut_up.nd rfl (by first | exact Or.inl rfl | exact Or.inr rfl)) (pgs_cons (pg_name (i := 5) sc_cut_up.nd rfl (by first | exact Or.inl rfl | exact Or.inr rfl)) (pgs_cons (pg_name (i := 7) sc_cut_up.nd rfl (by first | exact Or.inl rfl | exact Or.inr rfl)) pgs_nil))))) (pss_one (ps_set (i := 6) sc_cut_up.nd rfl (by first | exact Or.inl rfl | exact Or.inr rfl) (pe_callB (max2U rfl) (by rfl) B.max (by decide +kernel) (pa_cons (pv 8) (pa_cons (pv 6) pa_nil))))))) (pss_one (ps_expr (pe_bmK K PySem.F.plainAttrs_list PySem.F.slot_list_append PySem.F.type_list_append mt_append (pv 1) (pa_cons (pe_tup (pa_cons (pv 6) (pa_cons (pv 4) (pa_cons (pv 7) pa_nil)))) pa_nil)))))))) (pss_one (ps_ret (pv 1))))), ?_⟩
  refine st0 [some (.ref a), none, none, none, none, none, none, none, none] rfl ?_
  walk_at "go"
  refine ⟨lk rfl, fun p hp => ?_⟩
  walk_at "go"
  have hsp := Ext.new (K := K) (o := .lst []) hp _ _ hs
  walk_at "go"
  refine HE.forET (xs := xs) (fun i σ H' => ∃ (ws : List V) (bs : List Bk) (o2 o3 o4 o5 o6 o7 o8 : Option V), σ = [some (.ref a), some (.ref p), o2, o3, o4, o5, o6, o7, o8] ∧ Same H H' ∧ H' p = some (.lst ws) ∧ Rps K H' ws (cutPy 0 bs) ∧ Good bs ∧ fl bs = es.take i)
    ⟨[], [], none, none, none, none, none, none, none, rfl, same_new hp _, upd_same, .nil, Good.nil, by simp [fl]⟩ ?_ ?_ ?_
  · rintro i σ H' hi ⟨ws, bs, o2, o3, o4, o5, o6, o7, o8, rfl, s1, _⟩
    exact Ext.of_same s1 _ _ hs
  · rintro i x t σ H' hx ⟨ws, bs, o2, o3, o4, o5, o6, o7, o8, rfl, s1, f1, f2, f3, f4⟩ ht
    have s2 := Same.new (o := .tup [.int (i : Nat), x]) s1 ht
    have npt : p ≠ t := ne_of_none f1 ht
    have g1 : (upd H' t (.tup [.int (i : Nat), x])) p = some (.lst ws) := by rw [upd_ne npt]; exact f1
    have g2 := f2.mono (Ext.new (K := K) (o := .tup [.int (i : Nat), x]) ht) _ _
    have gt : SqT K (upd H' t (.tup [.int (i : Nat), x])) t [.int (i : Nat), x] := SqT.of upd_same
    generalize upd H' t (.tup [.int (i : Nat), x]) = H2 at *
    obtain ⟨d, hd, rd⟩ := hR.getV hx
    rw [List.getElem?_map, Option.map_eq_some_iff] at hd
    obtain ⟨e, he, rfl⟩ := hd
    obtain ⟨ax, bx, rfl, sx, _⟩ := (rd.mono (Ext.of_same s2) _ _).ent
    have hlen : (fl bs).length = i := by
      rw [f4, List.length_take]
      rcases Nat.lt_or_ge i es.length with z | z
      · omega
      · rw [List.getElem?_eq_none z] at he
        cases he
    walk_at "go"
    refine rd_while (fun m σ H' => ∃ (ws : List V) (bs : List Bk) (nb : Bk) (o5 o8 : Option V), σ = [some (.ref a), some (.ref p), some (.int (i : Nat)), some (.int e.n), some (.int e.h), o5, some (.int nb.H), some (.int ((fl bs).length : Nat)), o8] ∧ m = bs.length ∧ Same H H' ∧ H' p = some (.lst ws) ∧ Rps K H' ws (cutPy 0 bs) ∧ Good bs ∧ Way bs nb ∧ nb.V = e.h ∧ fl bs ++ nb.es = es.take (i + 1)) bs.length
      ⟨ws, bs, ⟨[e], e.n, e.h⟩, some (.ref bx), o8, by rw [hlen]; rfl, rfl, s2, g1, g2, f3, Way.one bs e, rfl, by rw [f4, List.take_add_one, he]; rfl⟩ ?_
    rintro m σ H3 ⟨ws, bs, nb, o5, o8, rfl, rfl, s3, k1, k2, k3, k4, k5, k6⟩
    have lw := k2.length
    rw [cutPy_len] at lw
    have lwb : ws.length ≤ 1000000 := by
      have z1 := k3.card
      have z2 : (fl bs).length ≤ es.length := by
        have := congrArg List.length k6
        rw [List.length_append, List.length_take] at this
        omega
      omega
    walk_at "go"
    rcases List.eq_nil_or_concat bs with rfl | ⟨bs', tb, rfl⟩
    · have : ws = [] := List.eq_nil_of_length_eq_zero lw
      subst this
      refine iteF ?_
      walk_at "go"
      walk_at "go"
      refine ⟨lk rfl, fun p2 hp2 => ?_⟩
      walk_at "go"
      refine u_app (by rw [upd_ne (ne_of_none k1 hp2)]; exact k1) (ls lwb) ?_
      walk_at "go"
      obtain ⟨z1, z2, z3, z4, z5⟩ := push_end hp s3 k1 k2 k3 k4 k5 k6 (fun t z => by simp at z) hp2
      exact ⟨_, _, _, _, _, _, _, _, _, rfl, z1, z2, z3, z4, z5⟩
    · rw [List.concat_eq_append] at *
      rw [cutPy_append] at k2
      rcases List.eq_nil_or_concat ws with rfl | ⟨ws', v, rfl⟩
      · exfalso
        rw [List.length_append] at lw
        exact absurd lw (by simp)
      rw [List.concat_eq_append] at *
      have k7 := k2.dropLast
      rw [List.dropLast_concat] at k7
      have ec : cutPy 0 bs' ++ cutPy (0 + (fl bs').length) [tb] = cutPy 0 bs' ++ [PyData.tuple [.int tb.H, .int tb.V, .int ((fl bs').length : Nat)]] := by rw [Nat.zero_add]; rfl
      rw [ec] at k2 k7
      rw [List.dropLast_concat] at k7
      have lw' : ws'.length = (cutPy 0 bs').length := k7.length
      obtain ⟨v2, ev, rv⟩ := k2.get (i := ws'.length) (d := .tuple [.int tb.H, .int tb.V, .int ((fl bs').length : Nat)]) (by rw [lw']; simp)
      have : v = v2 := by simpa using ev
      subst this
      obtain ⟨at', rfl, st⟩ := rv.tri
      have hne : (!(ws' ++ [V.ref at']).isEmpty) = true := by simp
      rw [hne]
      refine iteT ?_
      walk_at "go"
      refine u_ixL (SqL.of k1) at_last ?_
      walk_at "go"
      refine u_ixT st rfl ?_
      walk_at "go"
      refine rd_split (fun c1 => ?_) (fun c1 => ?_)
      · refine ⟨fun σ' H' => ∃ m', m' < (bs' ++ [tb]).length ∧ _, fun _ _ h => h, ?_⟩
        walk_at "go"
        refine u_pop (y := .ref at') k1 (by simp) ?_
        walk_at "go"
        have xD : Ext K H3 (upd H3 p (.lst (ws' ++ [V.ref at']).dropLast)) := Ext.set k1 trivial
        refine rd_gtup (xD _ _ st) rfl ?_
        walk_at "go"
        have em : (if nb.H > tb.H then nb.H else tb.H) = max tb.H nb.H := by split <;> omega
        rw [em]
        exact ⟨bs'.length, by simp, ws', bs', ⟨tb.es ++ nb.es, max tb.H nb.H, nb.V⟩, some (.int tb.V), some (.int tb.H), rfl, rfl, Same.upd_new s3 hp, by rw [List.dropLast_concat]; exact upd_same, k7.mono xD _ _, k3.init.1, Way.join k3 k4 (.inl c1), k5, by rw [← k6, fl_append, fl_one, List.append_assoc]⟩
      · walk_at "go"
        refine u_ixL (SqL.of k1) at_last ?_
        walk_at "go"
        refine u_ixT st rfl ?_
        walk_at "go"
        refine rd_split (fun c2 => ?_) (fun c2 => ?_)
        · refine ⟨fun σ' H' => ∃ m', m' < (bs' ++ [tb]).length ∧ _, fun _ _ h => h, ?_⟩
          walk_at "go"
          refine u_pop (y := .ref at') k1 (by simp) ?_
          walk_at "go"
          have xD : Ext K H3 (upd H3 p (.lst (ws' ++ [V.ref at']).dropLast)) := Ext.set k1 trivial
          refine rd_gtup (xD _ _ st) rfl ?_
          walk_at "go"
          have em : (if nb.H > tb.H then nb.H else tb.H) = max tb.H nb.H := by split <;> omega
          rw [em]
          exact ⟨bs'.length, by simp, ws', bs', ⟨tb.es ++ nb.es, max tb.H nb.H, nb.V⟩, some (.int tb.V), some (.int tb.H), rfl, rfl, Same.upd_new s3 hp, by rw [List.dropLast_concat]; exact upd_same, k7.mono xD _ _, k3.init.1, Way.join k3 k4 (.inr (by rw [k5]; exact c2)), k5, by rw [← k6, fl_append, fl_one, List.append_assoc]⟩
        · walk_at "go"
          refine ⟨lk rfl, fun p2 hp2 => ?_⟩
          walk_at "go"
          refine u_app (by rw [upd_ne (ne_of_none k1 hp2)]; exact k1) (ls lwb) ?_
          walk_at "go"
          rw [← ec, ← cutPy_append] at k2
          obtain ⟨z1, z2, z3, z4, z5⟩ := push_end hp s3 k1 k2 k3 k4 k5 k6 (fun t z => by
            have : tb = t := by simpa using z
            subst this
            omega) hp2
          exact ⟨_, _, _, _, _, _, _, _, _, rfl, z1, z2, z3, z4, z5⟩
  · rintro σ H' ⟨ws, bs, o2, o3, o4, o5, o6, o7, o8, rfl, s1, f1, f2, f3, f4⟩
    walk_at "go"
    refine q _ _ _ _ s1 hp f1 f2 f3 ?_
    rw [f4, List.take_of_length_le]
    rw [hR.length, List.length_map]
    exact Nat.le_refl _
end
end Mine

/-! ### G3 -/
namespace Mine
open PySem PySem.Spec L2
local macro_rules | `(tactic| walk_at "st") => `(tactic| first
  | ((with_reducible apply rd_var); exact rfl)
  | (with_reducible apply rd_c)
  | (with_reducible apply rd_seq)
  | (with_reducible apply rd_asg)
  | (with_reducible apply rd_gname)
  | (with_reducible apply rd_op)
  | (with_reducible apply rd_cb)
  | (with_reducible apply rd_cons)
  | (with_reducible apply rd_nil)
  | (with_reducible apply rd_if)
  | (with_reducible apply rd_test)
  | (with_reducible apply rd_bl)
  | (with_reducible apply rd_retE)
  | (with_reducible apply rd_ret)
  | (with_reducible apply rd_call)
  | (with_reducible apply rd_tup)
  | (with_reducible apply rd_lst)
  | (with_reducible apply rd_drop)
  | (with_reducible apply rd_next)
  | (with_reducible apply rd_ife)
  | (with_reducible apply rd_gsub)
  | (with_reducible apply rd_par)
  | (with_reducible apply rd_par_end)
  | (with_reducible apply rd_un)
  | (with_reducible apply rd_and)
  | (with_reducible apply rd_or)
  | (with_reducible apply rd_not)
  | (with_reducible apply rd_andV)
  | (with_reducible apply rd_orV)
  | (with_reducible apply rd_notV)
  | (with_reducible apply rd_chain)
  | (with_reducible apply rd_tB)
  | (with_reducible apply rd_brk)
  | (with_reducible apply rd_ct)
  | (with_reducible apply u_add)
  | (with_reducible apply u_sub)
  | (with_reducible apply u_lt)
  | (with_reducible apply u_le)
  | (with_reducible apply u_gt)
  | (with_reducible apply u_ge)
  | (with_reducible apply u_eqI)
  | (with_reducible apply u_eqS)
  | (with_reducible apply u_neI)
  | (with_reducible apply u_int)
  | (with_reducible apply u_intB)
  | (with_reducible apply u_max)
  | (with_reducible apply u_min)
  | (with_reducible apply u_neg)
  | ((with_reducible apply u_mod); focus first | assumption | decide | omega)
  | ((with_reducible apply u_div); focus first | decide | omega | (constructor <;> first | assumption | omega))
  | ((with_reducible apply u_mul); focus first | exact Or.inl (by omega) | exact Or.inr (by omega) | exact Or.inl (by decide) | exact Or.inr (by decide))
  | ((with_reducible apply u_ixL); (focus (first | assumption | exact SqL.of (by assumption) | exact SqL.of upd_same)); exact rfl)
  | ((with_reducible apply u_lenL); focus (first | assumption | exact SqL.of (by assumption) | exact SqL.of upd_same))
  | ((with_reducible apply u_lenT); focus (first | assumption | exact SqT.of (by assumption) | exact SqT.of upd_same))
  | ((with_reducible apply u_setL); (focus (first | assumption | exact upd_same)); exact rfl)
  | (with_reducible apply rd_chain3)
  | (with_reducible apply rd_tru)
  | (with_reducible apply rd_truB)
  | ((with_reducible apply rd_truL); focus (first | assumption | exact SqL.of (by assumption) | exact SqL.of upd_same))
  | (with_reducible apply rd_bm)
  | (with_reducible apply rd_bm0)
  | ((with_reducible apply rd_tyL); focus (first | exact SqL.of (by assumption) | exact SqL.of upd_same))
  | (with_reducible apply u_min3)
  | (with_reducible apply rd_rev)
  | (with_reducible apply rd_iList)
  | (with_reducible apply rd_iTup)
  | (with_reducible apply rd_for)
  | (with_reducible apply rd_rng1)
  | (with_reducible apply rd_rng2)
  | ((with_reducible apply rd_rng1e); (focus omega); (focus omega))
  | ((with_reducible apply rd_rng2e); (focus omega))
  | (with_reducible apply rd_gcons)
  | (with_reducible apply rd_gnil)
  | (with_reducible apply rd_retN)
  | (with_reducible apply g_eqI)
  | (with_reducible apply g_eqS)
  | (with_reducible apply g_neI)
  | (with_reducible apply g_neS)
  | (with_reducible apply g_neB)
  | (with_reducible apply rd_xf)
  | (with_reducible apply rd_raiseE)
  | (with_reducible apply rd_callS)
  | (with_reducible apply u_inD)
  | (with_reducible apply u_notInD)
  | (with_reducible apply u_inS)
  | (with_reducible apply u_notInS)
  | (with_reducible apply rd_iSeq)
  | ((with_reducible apply rd_seqL); (focus first | assumption | exact SqL.of (by assumption) | exact SqL.of upd_same))
  | ((with_reducible apply rd_seqT); (focus first | assumption | exact SqT.of (by assumption) | exact SqT.of upd_same))
  | (with_reducible apply rd_istr)
  | (with_reducible apply rd_istrE)
  | ((with_reducible apply u_isi); (focus (first | exact Or.inl rfl | exact Or.inr (Or.inl rfl) | exact Or.inr (Or.inr (Or.inl rfl)) | exact Or.inr (Or.inr (Or.inr rfl)))); (focus first | assumption | exact Rp.int _ | exact Rp.str _))
  | ((with_reducible apply rd_itL); (focus first | assumption | exact SqL.of (by assumption) | exact SqL.of upd_same))
  | ((with_reducible apply rd_itT); (focus first | assumption | exact SqT.of (by assumption) | exact SqT.of upd_same))
  | (with_reducible apply rd_lc)
  | (with_reducible apply rd_yes)
  | ((with_reducible apply u_pow); (focus (exact ⟨by decide, by decide, by decide⟩)))
  | (with_reducible apply u_mul; focus exact Or.inr cm)
  | (with_reducible apply rd_par3)
  | (with_reducible apply rd_par3_end)
  | ((with_reducible apply rd_aug); exact rfl)
  | (with_reducible apply rd_ipI)
  | (with_reducible apply rd_enA)
  | ((with_reducible apply u_enT); (focus first | assumption | exact SqT.of (by assumption) | exact SqT.of upd_same))
  | ((with_reducible apply u_enL); (focus first | assumption | exact SqL.of (by assumption) | exact SqL.of upd_same))
  | (with_reducible apply rd_zip)
  | (with_reducible apply rd_lc2)
  | ((with_reducible apply rd_gtup); (focus first | assumption | exact SqT.of (by assumption) | exact SqT.of upd_same); (focus rfl))
  | (with_reducible apply rd_dnew)
  | (with_reducible apply rd_din)
  | (with_reducible apply rd_dget)
  | (with_reducible apply rd_dput)
  | (with_reducible apply rd_disp1)
  | (with_reducible apply rd_sl)
  | (with_reducible apply rd_part)
  | (with_reducible apply rd_partI)
  | (with_reducible apply rd_nopart)
  | (with_reducible apply iteT)
  | (with_reducible apply iteF))
local macro_rules | `(tactic| walk_at "go") => `(tactic| repeat (walk_at "st"))
local macro_rules | `(tactic| walk_at "sp") => `(tactic| (first | refine rd_split (fun c => ?_) (fun c => ?_) | refine rd_splitN (fun c => ?_) (fun c => ?_) | refine rd_splitB (fun c => ?_) (fun c => ?_)))
local macro_rules | `(tactic| walk_at "nx") => `(tactic| repeat (first | (with_reducible apply iteF) | (with_reducible apply iteT) | (with_reducible apply rd_next)))

section
variable {P : Program} {w : World} {K : PySem.W.Frag} {mg : Str → Option Value} {base : Heap}
theorem iV_append (a b : List Int) : (a ++ b).map V.int = a.map V.int ++ b.map V.int := List.map_append
def spSw (K : PySem.W.Frag) : Sp := fun vs H Q _ => ∃ (a : Addr) (xs : List V) (es : List Ent) (i j : Nat), vs = [.ref a, .int i, .int j] ∧ SqT K H a xs ∧ Rps K H xs (es.map Ent.py) ∧ i ≤ es.length ∧ j ≤ es.length ∧ (((es.drop i).take (j - i)).flatMap Ent.s).length ≤ 100000 ∧
  ∀ (H' : Hp) (q : Addr), Same H H' → SqT K H' q ((((es.drop i).take (j - i)).flatMap Ent.s).map V.int) → Q (.ref q) H'
abbrev s_steps_within : Stmt := top 10
theorem sc_steps_within : FnScope ["run", "first", "end", "_", "steps", "step"] ["run", "first", "end"] (defScope s_steps_within) := ⟨rfl, rfl, rfl, by decide +kernel, rfl, by decide +kernel, by decide +kernel⟩
theorem has_steps_within (O : OwnF K mg "steps_within" s_steps_within) (B : Bl mg) : HasF P w K mg base CX0 1 "steps_within" ["run", "first", "end"] (spSw K) := by
  refine has0 O sc_steps_within (fun _ _ _ _ _ _ us hl => match us, hl with | [_, _, _], _ => rfl) (fun vs H Q E h => ?_) (fun f cdv A outer s_ H vs Q E hr h => ?_)
  · obtain ⟨a, xs, es, i, j, rfl, _⟩ := h
    rfl
  obtain ⟨a, xs, es, i, j, rfl, hs, hR, hi, hj, hb, q⟩ := h
  have lx : xs.length = es.length := by rw [hR.length, List.length_map]
  refine ⟨_, (pss_one (ps_ret (pe_callTy (kTup K) (by rfl) B.tuple (by decide +kernel) (pa_cons (pe_lc2 (own := [("_", 3), ("steps", 4), ("step", 5)]) (g := _) (tt := tYes) (g1 := gName 5) (tt1 := tYes) (vs1 := [5]) rfl sc_steps_within.nd (pi_tupK K (pe_slice (kSl K) (pv 0) (po_some (pv 1)) (po_some (pv 2)))) (blkOk_by (own := [("_", 3), ("steps", 4), ("step", 5)]) (N := ["run", "first", "end", "_", "steps", "step"]) (sc := defScope s_steps_within) (by decide +kernel)) (by decide) (fun _ _ _ _ _ => (pg_tupK (n := 3) K rfl (pgs_cons (pg_name (i := 3) sc_steps_within.nd rfl (by first | exact Or.inl rfl | exact Or.inr rfl)) (pgs_cons (pg_name (i := 3) sc_steps_within.nd rfl (by first | exact Or.inl rfl | exact Or.inr rfl)) (pgs_cons (pg_name (i := 4) sc_steps_within.nd rfl (by first | exact Or.inl rfl | exact Or.inr rfl)) pgs_nil))))) (fun _ _ _ _ _ => pts_nil) (fun _ _ _ _ _ => (pi_tupK K (pv 4))) (fun _ _ _ _ _ => (pg_name (i := 5) sc_steps_within.nd rfl (by first | exact Or.inl rfl | exact Or.inr rfl))) (fun _ _ _ _ _ => pts_nil) (fun _ _ _ _ _ => (pv 5))) pa_nil)))), ?_⟩
  refine st0 [some (.ref a), some (.int (i : Nat)), some (.int (j : Nat)), none, none, none] rfl ?_
  walk_at "go"
  refine u_slS hs fun q1 H1 s1 hq1 => ?_
  rw [cut_mid xs i j (by omega) (by omega)] at hq1
  have hRc : Rps K H1 ((xs.drop i).take (j - i)) (((es.drop i).take (j - i)).map Ent.py) := by
    rw [List.map_take, List.map_drop]
    exact ((hR.drop i).take (j - i)).mono (Ext.of_same s1) _ _
  generalize (es.drop i).take (j - i) = ces at *
  generalize (xs.drop i).take (j - i) = cxs at *
  have lc : cxs.length = ces.length := by rw [hRc.length, List.length_map]
  walk_at "go"
  intro D hD
  refine lcG (xs := cxs) (fun k H' => H' D = some (.lst (((ces.take k).flatMap Ent.s).map V.int)) ∧ Same H1 H') ⟨upd_same, Same.upd_new (Same.refl H1) hD⟩ ?_ ?_ ?_
  · rintro k H' hk ⟨f1, f2⟩
    exact Ext.of_same f2 _ _ hq1
  · rintro k x H' hx ⟨f1, f2⟩
    obtain ⟨d, hd, rd⟩ := hRc.getV hx
    rw [List.getElem?_map, Option.map_eq_some_iff] at hd
    obtain ⟨e, he, rfl⟩ := hd
    obtain ⟨ax, bx, rfl, sx0, sb0⟩ := rd.ent
    have sx := Ext.of_same (K := K) f2 _ _ sx0
    have sb := Ext.of_same (K := K) f2 _ _ sb0
    have etk : (ces.take (k + 1)).flatMap Ent.s = (ces.take k).flatMap Ent.s ++ e.s := by
      rw [List.take_add_one, he, List.flatMap_append]
      simp
    have hbk : ((ces.take k).flatMap Ent.s ++ e.s).length ≤ 100000 := by
      rw [← etk]
      refine Nat.le_trans ?_ hb
      have z : ces.flatMap Ent.s = (ces.take (k + 1)).flatMap Ent.s ++ (ces.drop (k + 1)).flatMap Ent.s := by rw [← List.flatMap_append, List.take_append_drop]
      rw [z, List.length_append]
      omega
    walk_at "go"
    refine ⟨rfl, ?_⟩
    walk_at "go"
    refine lcG (xs := e.s.map V.int) (fun l H2 => H2 D = some (.lst (((ces.take k).flatMap Ent.s ++ e.s.take l).map V.int)) ∧ Same H1 H2) ⟨by rw [List.take_zero, List.append_nil]; exact f1, f2⟩ ?_ ?_ ?_
    · rintro l H2 hl ⟨g1, g2⟩
      exact Ext.of_same g2 _ _ sb0
    · rintro l y H2 hy ⟨g1, g2⟩
      rw [List.getElem?_map, Option.map_eq_some_iff] at hy
      obtain ⟨z, hz, rfl⟩ := hy
      walk_at "go"
      refine ⟨rfl, ?_⟩
      walk_at "go"
      refine ⟨_, g1, ?_, ?_, Same.upd_new g2 hD⟩
      · rw [List.length_map, List.length_append, List.length_take]
        rw [List.length_append] at hbk
        exact ls (by omega)
      · rw [upd_same, List.take_add_one, hz, ← List.append_assoc, iV_append _ (some z).toList]
        rfl
    · rintro H2 ⟨g1, g2⟩
      rw [List.length_map, List.take_length] at g1
      exact ⟨by rw [etk]; exact g1, g2⟩
  · rintro H' ⟨f1, f2⟩
    rw [lc, List.take_length] at f1
    walk_at "go"
    refine u_tupL (SqL.of f1) fun l hl => ?_
    exact q _ l (Same.new (s1.trans f2) hl) (SqT.of upd_same)
end
end Mine

/-! ### G4 -/
namespace Mine
open PySem PySem.Spec L2
local macro_rules | `(tactic| walk_at "st") => `(tactic| first
  | ((with_reducible apply rd_var); exact rfl)
  | (with_reducible apply rd_c)
  | (with_reducible apply rd_seq)
  | (with_reducible apply rd_asg)
  | (with_reducible apply rd_gname)
  | (with_reducible apply rd_op)
  | (with_reducible apply rd_cb)
  | (with_reducible apply rd_cons)
  | (with_reducible apply rd_nil)
  | (with_reducible apply rd_if)
  | (with_reducible apply rd_test)
  | (with_reducible apply rd_bl)
  | (with_reducible apply rd_retE)
  | (with_reducible apply rd_ret)
  | (with_reducible apply rd_call)
  | (with_reducible apply rd_tup)
  | (with_reducible apply rd_lst)
  | (with_reducible apply rd_drop)
  | (with_reducible apply rd_next)
  | (with_reducible apply rd_ife)
  | (with_reducible apply rd_gsub)
  | (with_reducible apply rd_par)
  | (with_reducible apply rd_par_end)
  | (with_reducible apply rd_un)
  | (with_reducible apply rd_and)
  | (with_reducible apply rd_or)
  | (with_reducible apply rd_not)
  | (with_reducible apply rd_andV)
  | (with_reducible apply rd_orV)
  | (with_reducible apply rd_notV)
  | (with_reducible apply rd_chain)
  | (with_reducible apply rd_tB)
  | (with_reducible apply rd_brk)
  | (with_reducible apply rd_ct)
  | (with_reducible apply u_add)
  | (with_reducible apply u_sub)
  | (with_reducible apply u_lt)
  | (with_reducible apply u_le)
  | (with_reducible apply u_gt)
  | (with_reducible apply u_ge)
  | (with_reducible apply u_eqI)
  | (with_reducible apply u_eqS)
  | (with_reducible apply u_neI)
  | (with_reducible apply u_int)
  | (with_reducible apply u_intB)
  | (with_reducible apply u_max)
  | (with_reducible apply u_min)
  | (with_reducible apply u_neg)
  | ((with_reducible apply u_mod); focus first | assumption | decide | omega)
  | ((with_reducible apply u_div); focus first | decide | omega | (constructor <;> first | assumption | omega))
  | ((with_reducible apply u_mul); focus first | exact Or.inl (by omega) | exact Or.inr (by omega) | exact Or.inl (by decide) | exact Or.inr (by decide))
  | ((with_reducible apply u_ixL); (focus (first | assumption | exact SqL.of (by assumption) | exact SqL.of upd_same)); exact rfl)
  | ((with_reducible apply u_lenL); focus (first | assumption | exact SqL.of (by assumption) | exact SqL.of upd_same))
  | ((with_reducible apply u_lenT); focus (first | assumption | exact SqT.of (by assumption) | exact SqT.of upd_same))
  | ((with_reducible apply u_setL); (focus (first | assumption | exact upd_same)); exact rfl)
  | (with_reducible apply rd_chain3)
  | (with_reducible apply rd_tru)
  | (with_reducible apply rd_truB)
  | ((with_reducible apply rd_truL); focus (first | assumption | exact SqL.of (by assumption) | exact SqL.of upd_same))
  | (with_reducible apply rd_bm)
  | (with_reducible apply rd_bm0)
  | ((with_reducible apply rd_tyL); focus (first | exact SqL.of (by assumption) | exact SqL.of upd_same))
  | (with_reducible apply u_min3)
  | (with_reducible apply rd_rev)
  | (with_reducible apply rd_iList)
  | (with_reducible apply rd_iTup)
  | (with_reducible apply rd_for)
  | (with_reducible apply rd_rng1)
  | (with_reducible apply rd_rng2)
  | ((with_reducible apply rd_rng1e); (focus omega); (focus omega))
  | ((with_reducible apply rd_rng2e); (focus omega))
  | (with_reducible apply rd_gcons)
  | (with_reducible apply rd_gnil)
  | (with_reducible apply rd_retN)
  | (with_reducible apply g_eqI)
  | (with_reducible apply g_eqS)
  | (with_reducible apply g_neI)
  | (with_reducible apply g_neS)
  | (with_reducible apply g_neB)
  | (with_reducible apply rd_xf)
  | (with_reducible apply rd_raiseE)
  | (with_reducible apply rd_callS)
  | (with_reducible apply u_inD)
  | (with_reducible apply u_notInD)
  | (with_reducible apply u_inS)
  | (with_reducible apply u_notInS)
  | (with_reducible apply rd_iSeq)
  | ((with_reducible apply rd_seqL); (focus first | assumption | exact SqL.of (by assumption) | exact SqL.of upd_same))
  | ((with_reducible apply rd_seqT); (focus first | assumption | exact SqT.of (by assumption) | exact SqT.of upd_same))
  | (with_reducible apply rd_istr)
  | (with_reducible apply rd_istrE)
  | ((with_reducible apply u_isi); (focus (first | exact Or.inl rfl | exact Or.inr (Or.inl rfl) | exact Or.inr (Or.inr (Or.inl rfl)) | exact Or.inr (Or.inr (Or.inr rfl)))); (focus first | assumption | exact Rp.int _ | exact Rp.str _))
  | ((with_reducible apply rd_itL); (focus first | assumption | exact SqL.of (by assumption) | exact SqL.of upd_same))
  | ((with_reducible apply rd_itT); (focus first | assumption | exact SqT.of (by assumption) | exact SqT.of upd_same))
  | (with_reducible apply rd_lc)
  | (with_reducible apply rd_yes)
  | ((with_reducible apply u_pow); (focus (exact ⟨by decide, by decide, by decide⟩)))
  | (with_reducible apply u_mul; focus exact Or.inr cm)
  | (with_reducible apply rd_par3)
  | (with_reducible apply rd_par3_end)
  | ((with_reducible apply rd_aug); exact rfl)
  | (with_reducible apply rd_ipI)
  | (with_reducible apply rd_enA)
  | ((with_reducible apply u_enT); (focus first | assumption | exact SqT.of (by assumption) | exact SqT.of upd_same))
  | ((with_reducible apply u_enL); (focus first | assumption | exact SqL.of (by assumption) | exact SqL.of upd_same))
  | (with_reducible apply rd_zip)
  | (with_reducible apply rd_lc2)
  | ((with_reducible apply rd_gtup); (focus first | assumption | exact SqT.of (by assumption) | exact SqT.of upd_same); (focus rfl))
  | (with_reducible apply rd_dnew)
  | (with_reducible apply rd_din)
  | (with_reducible apply rd_dget)
  | (with_reducible apply rd_dput)
  | (with_reducible apply rd_disp1)
  | (with_reducible apply rd_sl)
  | (with_reducible apply rd_part)
  | (with_reducible apply rd_partI)
  | (with_reducible apply rd_nopart)
  | (with_reducible apply iteT)
  | (with_reducible apply iteF))
local macro_rules | `(tactic| walk_at "go") => `(tactic| repeat (walk_at "st"))
local macro_rules | `(tactic| walk_at "sp") => `(tactic| (first | refine rd_split (fun c => ?_) (fun c => ?_) | refine rd_splitN (fun c => ?_) (fun c => ?_) | refine rd_splitB (fun c => ?_) (fun c => ?_)))
local macro_rules | `(tactic| walk_at "nx") => `(tactic| repeat (first | (with_reducible apply iteF) | (with_reducible apply iteT) | (with_reducible apply rd_next)))

section
variable {P : Program} {w : World} {K : PySem.W.Frag} {mg : Str → Option Value} {base : Heap}
/-- a block as an entry of a row -/
def seg (b : Bk) : Ent := ⟨b.H, b.V, b.es.flatMap Ent.s⟩
theorem firstBad_one {ds : List PyData} {i j : Nat} (h : firstBad ds i) (k : firstBad ds j) : i = j := by
  obtain ⟨h1, d, h2, h3⟩ := h
  obtain ⟨k1, e, k2, k3⟩ := k
  rcases Nat.lt_trichotomy i j with z | z | z
  · rw [k1 i d z h2] at h3
    cases h3
  · exact z
  · rw [h1 j e z k2] at k3
    cases k3
/-- where the blocks end -/
def endsOf (o : Nat) : List Bk → List Nat
  | [] => []
  | b :: r => (o + b.es.length) :: endsOf (o + b.es.length) r
theorem endsOf_get : ∀ (o : Nat) (bs : List Bk) (k : Nat), k < bs.length → (endsOf o bs)[k]? = some (o + (fl (bs.take (k + 1))).length)
  | o, b :: r, 0, _ => by simp [endsOf, fl]
  | o, b :: r, k + 1, h => by
    rw [endsOf, List.getElem?_cons_succ, endsOf_get _ r k (by simpa using h), List.take_succ_cons, fl_cons, List.length_append, Nat.add_assoc]
theorem endsOf_len : ∀ (o : Nat) (bs : List Bk), (endsOf o bs).length = bs.length
  | _, [] => rfl
  | o, b :: r => by rw [endsOf, List.length_cons, List.length_cons, endsOf_len]
theorem cutPy_get : ∀ (o : Nat) (bs : List Bk) (k : Nat) (b : Bk), bs[k]? = some b → (cutPy o bs)[k]? = some (.tuple [.int b.H, .int b.V, .int ((o + (fl (bs.take k)).length : Nat) : Int)])
  | _, [], _, _, z => by simp at z
  | o, x :: r, 0, b, z => by
    obtain rfl : x = b := by simpa using z
    simp [cutPy, fl]
  | o, x :: r, k + 1, b, z => by
    rw [cutPy, List.getElem?_cons_succ, cutPy_get _ r k b (by simpa using z), List.take_succ_cons, fl_cons, List.length_append, Nat.add_assoc]
def nV (ns : List Nat) : List V := ns.map fun (n : Nat) => V.int (n : Int)
/-- what hills tells of entries -/
def spHl (K : PySem.W.Frag) (cB : Addr) : Sp := fun vs H Q E => ∃ (a : Addr) (xs : List V) (ds : List PyData), vs = [.ref a] ∧ SqT K H a xs ∧ Rps K H xs ds ∧
  ((∃ i, firstBad ds i ∧ Raised E H cB i) ∨ ∃ es, ds = es.map Ent.py ∧ (∀ e ∈ es, 0 ≤ e.n ∧ 0 ≤ e.h) ∧ es.length ≤ 1000 ∧ (es.flatMap Ent.s).length ≤ 100000 ∧
    ∀ (H' : Hp) (q : Addr) (ys : List V) (bs : List Bk), Same H H' → SqT K H' q ys → Rps K H' ys ((bs.map seg).map Ent.py) → Good bs → fl bs = es → Q (.ref q) H')
theorem ent_is {e : Ent} (h : 0 ≤ e.n ∧ 0 ≤ e.h) : isEnt e.py = true := by
  unfold Ent.py
  show (decide (0 ≤ e.n) && (decide (0 ≤ e.h) && true)) = true
  rw [decide_eq_true h.1, decide_eq_true h.2] <;> rfl
theorem fl_at {bs : List Bk} {k : Nat} {b : Bk} (h : bs[k]? = some b) : ((fl bs).drop (fl (bs.take k)).length).take ((fl (bs.take (k + 1))).length - (fl (bs.take k)).length) = b.es ∧ (fl (bs.take k)).length ≤ (fl bs).length ∧ (fl (bs.take (k + 1))).length ≤ (fl bs).length := by
  have e1 : bs = bs.take k ++ b :: bs.drop (k + 1) := by
    have hk : k < bs.length := by
      rcases Nat.lt_or_ge k bs.length with z | z
      · exact z
      · rw [List.getElem?_eq_none z] at h
        cases h
    have e2 : bs[k] = b := by
      rw [List.getElem?_eq_getElem hk] at h
      exact Option.some.inj h
    rw [← e2]
    simp
  have e3 : bs.take (k + 1) = bs.take k ++ [b] := by rw [List.take_add_one, h] <;> rfl
  have e4 : fl bs = fl (bs.take k) ++ (b.es ++ fl (bs.drop (k + 1))) := by rw [← fl_cons, ← fl_append, ← e1]
  have e5 : (fl (bs.take (k + 1))).length = (fl (bs.take k)).length + b.es.length := by rw [e3, fl_append, fl_one, List.length_append]
  refine ⟨?_, ?_, ?_⟩
  · rw [e5, e4, Nat.add_sub_cancel_left, List.drop_left, List.take_left]
  · rw [e4, List.length_append]
    omega
  · rw [e5, e4, List.length_append, List.length_append]
    omega
abbrev s_hills : Stmt := top 11
theorem sc_hills : FnScope ["run", "segments", "ends", "_", "first", "found", "hill", "valley", "end"] ["run"] (defScope s_hills) := ⟨rfl, rfl, rfl, by decide +kernel, rfl, by decide +kernel, by decide +kernel⟩
theorem has_hills {cB : Addr} (O : OwnF K mg "hills" s_hills) (B : Bl mg) (h_check_run : HasF P w K mg base (L2.CX P w) 4 "check_run" ["run"] (spRun K cB)) (h_cut_up : HasF P w K mg base CX0 1 "cut_up" ["run"] (spCut K)) (h_steps_within : HasF P w K mg base CX0 1 "steps_within" ["run", "first", "end"] (spSw K)) : HasF P w K mg base (L2.CX P w) 5 "hills" ["run"] (spHl K cB) := by
  refine hasX O sc_hills (fun _ _ _ _ _ _ us hl => match us, hl with | [_], _ => rfl) (fun vs H Q E h => ?_) (fun f cdv A outer s_ H vs Q E hr h => ?_)
  · obtain ⟨a, xs, ds, rfl, _⟩ := h
    rfl
  obtain ⟨a, xs, ds, rfl, hs, hR, hc⟩ := h
  refine ⟨_, (pss_cons (ps_expr (pe_callHS h_check_run (hr.mono (by first | decide | omega)) (by rfl) (fun σ => passAt tkX σ) (pa_cons (pv 0) pa_nil))) (pss_cons (ps_set (i := 1) sc_hills.nd rfl (by first | exact Or.inl rfl | exact Or.inr rfl) (pe_callH h_cut_up (hr.mono (by first | decide | omega)) (by rfl) pass0 (pa_cons (pv 0) pa_nil))) (pss_cons (ps_set (i := 2) sc_hills.nd rfl (by first | exact Or.inl rfl | exact Or.inr rfl) (pe_op (kAdd K) (pe_lc (own := [("_", 3), ("first", 4)]) (g := _) (tt := tYes) rfl sc_hills.nd (pi_listK K (pe_slice (kSl K) (pv 1) (po_some pe_int) po_none)) (blkOk_by (own := [("_", 3), ("first", 4)]) (N := ["run", "segments", "ends", "_", "first", "found", "hill", "valley", "end"]) (sc := defScope s_hills) (by decide +kernel)) (fun _ _ _ _ _ => (pg_tupK (n := 3) K rfl (pgs_cons (pg_name (i := 3) sc_hills.nd rfl (by first | exact Or.inl rfl | exact Or.inr rfl)) (pgs_cons (pg_name (i := 3) sc_hills.nd rfl (by first | exact Or.inl rfl | exact Or.inr rfl)) (pgs_cons (pg_name (i := 4) sc_hills.nd rfl (by first | exact Or.inl rfl | exact Or.inr rfl)) pgs_nil))))) (fun _ _ _ _ _ => pts_nil) (fun _ _ _ _ _ => (pv 4))) (pe_lst (pa_cons (pe_callB (kLen K) (by rfl) B.len (by decide +kernel) (pa_cons (pv 0) pa_nil)) pa_nil)))) (pss_cons (ps_set (i := 5) sc_hills.nd rfl (by first | exact Or.inl rfl | exact Or.inr rfl) (pe_lst pa_nil)) (pss_cons (ps_for poX rfl (pi_zipK K (by rfl) B.zip (pa_cons (pv 1) (pa_cons (pv 2) pa_nil))) (pg_tupK (n := 2) K rfl (pgs_cons (pg_tupK (n := 3) K rfl (pgs_cons (pg_name (i := 6) sc_hills.nd rfl (by first | exact Or.inl rfl | exact Or.inr rfl)) (pgs_cons (pg_name (i := 7) sc_hills.nd rfl (by first | exact Or.inl rfl | exact Or.inr rfl)) (pgs_cons (pg_name (i := 4) sc_hills.nd rfl (by first | exact Or.inl rfl | exact Or.inr rfl)) pgs_nil)))) (pgs_cons (pg_name (i := 8) sc_hills.nd rfl (by first | exact Or.inl rfl | exact Or.inr rfl)) pgs_nil))) (pss_one (ps_expr (pe_bmK K PySem.F.plainAttrs_list PySem.F.slot_list_append PySem.F.type_list_append mt_append (pv 5) (pa_cons (pe_tup (pa_cons (pv 6) (pa_cons (pv 7) (pa_cons (pe_callH h_steps_within (hr.mono (by first | decide | omega)) (by rfl) pass0 (pa_cons (pv 0) (pa_cons (pv 4) (pa_cons (pv 8) pa_nil)))) pa_nil)))) pa_nil))))) (pss_one (ps_ret (pe_callTy (kTup K) (by rfl) B.tuple (by decide +kernel) (pa_cons (pv 5) pa_nil))))))))), ?_⟩
  refine st0 [some (.ref a), none, none, none, none, none, none, none, none] rfl ?_
  walk_at "go"
  refine ⟨a, xs, ds, rfl, hs, hR, fun i hb => ?_, fun hok H1 s1 => ?_⟩
  · rcases hc with ⟨j, hj, hE⟩ | ⟨es, rfl, he, _⟩
    · rw [firstBad_one hb hj]
      exact hE
    · obtain ⟨_, d, hd, hf⟩ := hb
      rw [List.getElem?_map, Option.map_eq_some_iff] at hd
      obtain ⟨e, ee, rfl⟩ := hd
      rw [ent_is (he e (List.mem_of_getElem? ee))] at hf
      cases hf
  rcases hc with ⟨j, ⟨_, d, hd, hf⟩, _⟩ | ⟨es, rfl, he, hl, hb, q⟩
  · rw [hok d (List.mem_of_getElem? hd)] at hf
    cases hf
  walk_at "go"
  refine ⟨a, xs, es, rfl, Ext.of_same s1 _ _ hs, hR.mono (Ext.of_same s1) _ _, hl, fun H2 p ws bs s2 hp f1 f2 f3 f4 => ?_⟩
  walk_at "go"
  refine u_slL (SqL.of f1) fun p2 hp2 => ?_
  have ecut : cutV ws (some 1) none = ws.drop 1 := cut_from ws 1
  rw [ecut]
  have s3 := Same.new (o := .lst (ws.drop 1)) (s1.trans s2) hp2
  have n12 : p ≠ p2 := ne_of_none f1 hp2
  have f1' : (upd H2 p2 (.lst (ws.drop 1))) p = some (.lst ws) := by rw [upd_ne n12]; exact f1
  have f2' := f2.mono (Ext.new (K := K) (o := .lst (ws.drop 1)) hp2) _ _
  have f5 : (upd H2 p2 (.lst (ws.drop 1))) p2 = some (.lst (ws.drop 1)) := upd_same
  have hpH : H p = none := by
    cases hh : H p with
    | none => rfl
    | some o => rw [s1 _ _ hh] at hp; cases hp
  clear f2 s2 hp hp2 f1
  generalize upd H2 p2 (.lst (ws.drop 1)) = H3 at *
  have lw : ws.length = bs.length := by rw [f2'.length, cutPy_len]
  have lbs : bs.length ≤ 1000 := by
    have := f3.card
    rw [f4] at this
    omega
  walk_at "go"
  intro D hD
  refine lc_list (xs := ws.drop 1) (fun k H' => H' D = some (.lst (nV ((endsOf 0 bs).take k))) ∧ Same H3 H') ⟨upd_same, Same.upd_new (Same.refl H3) hD⟩ ?_ ?_ ?_
  · rintro k H' hk ⟨g1, g2⟩
    exact SqL.of (g2 _ _ f5)
  · rintro k x H' hx ⟨g1, g2⟩
    rw [List.getElem?_drop] at hx
    obtain ⟨d, hd, rd⟩ := f2'.getV hx
    have hk : 1 + k < bs.length := by
      rcases Nat.lt_or_ge (1 + k) bs.length with z | z
      · exact z
      · rw [List.getElem?_eq_none (by omega)] at hx
        cases hx
    rw [cutPy_get 0 bs (1 + k) bs[1 + k] (List.getElem?_eq_getElem hk), Option.some.injEq] at hd
    subst hd
    obtain ⟨ax, rfl, sx⟩ := (rd.mono (Ext.of_same g2) _ _).tri
    walk_at "go"
    refine ⟨rfl, ?_⟩
    walk_at "go"
    refine ⟨_, g1, ?_, ?_, Same.upd_new g2 hD⟩
    · unfold nV
      rw [List.length_map, List.length_take]
      exact ls (by omega)
    · rw [upd_same, List.take_add_one, endsOf_get 0 bs k (by omega)]
      unfold nV
      rw [List.map_append, Nat.add_comm 1 k]
      rfl
  rintro H4 ⟨g1, g2⟩
  have s4 := s3.trans g2
  have hs4 := Ext.of_same (K := K) s4 _ _ hs
  have f6 := g2 _ _ f1'
  walk_at "go"
  refine ⟨lk rfl, fun p3 hp3 => ?_⟩
  have n3 : D ≠ p3 := ne_of_none g1 hp3
  refine u_addL (by rw [upd_ne n3]; exact g1) upd_same ?_ fun p4 hp4 => ?_
  · unfold nV
    rw [List.length_map, List.length_take, endsOf_len]
    exact ll (by show _ + 1 ≤ _; omega)
  have lx : xs.length = es.length := by rw [hR.length, List.length_map]
  obtain ⟨ens, een, emin, eget⟩ : ∃ ens : List V, nV ((endsOf 0 bs).take (ws.drop 1).length) ++ [V.int (xs.length : Nat)] = ens ∧ bs.length = min ws.length ens.length ∧ ∀ k, k < bs.length → ens[k]? = some (.int ((fl (bs.take (k + 1))).length : Nat)) := by
    refine ⟨_, rfl, ?_, fun k hk => ?_⟩
    · unfold nV
      rw [List.length_append, List.length_map, List.length_take, endsOf_len, List.length_drop]
      show _ = min _ (_ + 1)
      omega
    · unfold nV
      have e1 : (((endsOf 0 bs).take (ws.drop 1).length).map fun (n : Nat) => V.int (n : Int)).length = bs.length - 1 := by
        rw [List.length_map, List.length_take, endsOf_len, List.length_drop]
        omega
      rcases Nat.lt_or_ge k (bs.length - 1) with z | z
      · rw [List.getElem?_append_left (by omega), List.getElem?_map, List.getElem?_take_of_lt (by rw [List.length_drop]; omega), endsOf_get 0 bs k hk, Nat.zero_add]
        rfl
      · have ek : k + 1 = bs.length := by omega
        rw [List.getElem?_append_right (by omega), e1, show k - (bs.length - 1) = 0 by omega, ek, List.take_length, f4, lx]
        rfl
  rw [een]
  have s5 := Same.new (o := .lst ens) (Same.new (o := .lst [.int (xs.length : Nat)]) s4 hp3) hp4
  have f7 : (upd (upd H4 p3 (.lst [.int (xs.length : Nat)])) p4 (.lst ens)) p4 = some (.lst ens) := upd_same
  have f8 : (upd (upd H4 p3 (.lst [.int (xs.length : Nat)])) p4 (.lst ens)) p = some (.lst ws) := Same.new (o := .lst ens) (same_new hp3 _) hp4 _ _ f6
  have f9 := f2'.mono (Ext.of_same (K := K) (g2.trans (Same.new (o := .lst ens) (same_new hp3 (.lst [.int (xs.length : Nat)])) hp4))) _ _
  generalize upd (upd H4 p3 (.lst [.int (xs.length : Nat)])) p4 (.lst ens) = H5 at *
  walk_at "go"
  refine ⟨lk rfl, fun p5 hp5 => ?_⟩
  walk_at "go"
  have s6 : Same H5 (upd H5 p5 (.lst [])) := same_new hp5 _
  refine u_zipL (SqL.of (s6 _ _ f8)) (SqL.of (s6 _ _ f7)) ?_
  have hp5H : H p5 = none := by
    cases hh : H p5 with
    | none => rfl
    | some o => rw [s5 _ _ hh] at hp5; cases hp5
  refine forZm (xs := ws) (ys := ens) (m := bs.length) emin (fun i σ H' => ∃ (vs : List V) (o4 o6 o7 o8 : Option V), σ = [some (.ref a), some (.ref p), some (.ref p4), none, o4, some (.ref p5), o6, o7, o8] ∧ Same H5 H' ∧ H' p5 = some (.lst vs) ∧ Rps K H' vs (((bs.take i).map seg).map Ent.py))
    ⟨[], _, _, _, _, rfl, s6, upd_same, .nil⟩ ?_ ?_ ?_
  · rintro i σ H' hi ⟨vs, o4, o6, o7, o8, rfl, k1, k2, k3⟩
    exact ⟨SqL.of (k1 _ _ f8), SqL.of (k1 _ _ f7)⟩
  · rintro i x y t σ H' hi hx hy ⟨vs, o4, o6, o7, o8, rfl, k1, k2, k3⟩ ht
    have eb : bs[i]? = some bs[i] := List.getElem?_eq_getElem hi
    obtain ⟨d, hd, rd⟩ := f9.getV hx
    rw [cutPy_get 0 bs i _ eb, Nat.zero_add, Option.some.injEq] at hd
    subst hd
    rw [eget i hi, Option.some.injEq] at hy
    subst hy
    have k4 : Same H5 (upd H' t (.tup [x, .int ((fl (bs.take (i + 1))).length : Nat)])) := Same.new k1 ht
    obtain ⟨ax, rfl, sx⟩ := (rd.mono (Ext.of_same k4) _ _).tri
    have nt : p5 ≠ t := ne_of_none k2 ht
    obtain ⟨z1, z2, z3⟩ := fl_at eb
    rw [f4] at z1 z2 z3
    have k2' : (upd H' t (.tup [.ref ax, .int ((fl (bs.take (i + 1))).length : Nat)])) p5 = some (.lst vs) := by rw [upd_ne nt]; exact k2
    have k3' := k3.mono (Ext.new (K := K) (o := .tup [.ref ax, .int ((fl (bs.take (i + 1))).length : Nat)]) ht) _ _
    have lv : vs.length ≤ 1000 := by
      rw [k3.length, List.length_map, List.length_map, List.length_take]
      omega
    have sT : SqT K (upd H' t (.tup [.ref ax, .int ((fl (bs.take (i + 1))).length : Nat)])) t [.ref ax, .int ((fl (bs.take (i + 1))).length : Nat)] := SqT.of upd_same
    generalize upd H' t (.tup [.ref ax, .int ((fl (bs.take (i + 1))).length : Nat)]) = H6 at *
    walk_at "go"
    have hs6 := Ext.of_same (K := K) (s5.trans k4) _ _ hs
    have hR6 := hR.mono (Ext.of_same (K := K) (s5.trans k4)) _ _
    refine ⟨a, xs, es, _, _, rfl, hs6, hR6, z2, z3, ?_, fun H7 q7 s7 hq7 => ?_⟩
    · rw [z1]
      refine Nat.le_trans ?_ hb
      rw [← f4]
      unfold fl
      rw [List.flatMap_assoc]
      have e1 : bs = bs.take i ++ bs[i] :: bs.drop (i + 1) := by simp
      generalize bs[i] = b at *
      rw [e1, List.flatMap_append, List.flatMap_cons, List.length_append, List.length_append]
      omega
    rw [z1] at hq7
    walk_at "go"
    have k5 := s7 _ _ k2'
    have k6 := k3'.mono (Ext.of_same (K := K) s7) _ _
    refine ⟨lk rfl, fun p8 hp8 => ?_⟩
    have n58 : p5 ≠ p8 := ne_of_none k5 hp8
    have k8 : (upd H7 p8 (.tup [.int bs[i].H, .int bs[i].V, .ref q7])) p5 = some (.lst vs) := by rw [upd_ne n58]; exact k5
    have x8 : Ext K H7 (upd (upd H7 p8 (.tup [.int bs[i].H, .int bs[i].V, .ref q7])) p5 (.lst (vs ++ [.ref p8]))) := (Ext.new hp8).trans (Ext.set k8 trivial)
    walk_at "go"
    refine u_app k8 (ls (by omega)) ?_
    refine ⟨vs ++ [.ref p8], _, _, _, _, rfl, Same.upd_new (Same.new (k4.trans s7) hp8) hp5, upd_same, ?_⟩
    rw [List.take_add_one, eb]
    simp only [Option.toList_some, List.map_append, List.map_cons, List.map_nil]
    refine (k6.mono x8 _ _).append (.one (.tup (SqT.of (by rw [upd_ne n58.symm]; exact upd_same)) ?_))
    exact .cons (.int _) (.cons (.int _) (.cons (.tup (x8 _ _ hq7) (Rps.ints _)) .nil))
  · rintro σ H' ⟨vs, o4, o6, o7, o8, rfl, k1, k2, k3⟩
    rw [List.take_length] at k3
    walk_at "go"
    refine u_tupL (SqL.of k2) fun l hl2 => ?_
    exact q _ l vs bs (Same.new (s5.trans k1) hl2) (SqT.of upd_same) (k3.mono (Ext.new hl2) _ _) f3 f4
end
end Mine

/-! ### G5 -/
namespace Mine
open PySem PySem.Spec L2
local macro_rules | `(tactic| walk_at "st") => `(tactic| first
  | ((with_reducible apply rd_var); exact rfl)
  | (with_reducible apply rd_c)
  | (with_reducible apply rd_seq)
  | (with_reducible apply rd_asg)
  | (with_reducible apply rd_gname)
  | (with_reducible apply rd_op)
  | (with_reducible apply rd_cb)
  | (with_reducible apply rd_cons)
  | (with_reducible apply rd_nil)
  | (with_reducible apply rd_if)
  | (with_reducible apply rd_test)
  | (with_reducible apply rd_bl)
  | (with_reducible apply rd_retE)
  | (with_reducible apply rd_ret)
  | (with_reducible apply rd_call)
  | (with_reducible apply rd_tup)
  | (with_reducible apply rd_lst)
  | (with_reducible apply rd_drop)
  | (with_reducible apply rd_next)
  | (with_reducible apply rd_ife)
  | (with_reducible apply rd_gsub)
  | (with_reducible apply rd_par)
  | (with_reducible apply rd_par_end)
  | (with_reducible apply rd_un)
  | (with_reducible apply rd_and)
  | (with_reducible apply rd_or)
  | (with_reducible apply rd_not)
  | (with_reducible apply rd_andV)
  | (with_reducible apply rd_orV)
  | (with_reducible apply rd_notV)
  | (with_reducible apply rd_chain)
  | (with_reducible apply rd_tB)
  | (with_reducible apply rd_brk)
  | (with_reducible apply rd_ct)
  | (with_reducible apply u_add)
  | (with_reducible apply u_sub)
  | (with_reducible apply u_lt)
  | (with_reducible apply u_le)
  | (with_reducible apply u_gt)
  | (with_reducible apply u_ge)
  | (with_reducible apply u_eqI)
  | (with_reducible apply u_eqS)
  | (with_reducible apply u_neI)
  | (with_reducible apply u_int)
  | (with_reducible apply u_intB)
  | (with_reducible apply u_max)
  | (with_reducible apply u_min)
  | (with_reducible apply u_neg)
  | ((with_reducible apply u_mod); focus first | assumption | decide | omega)
  | ((with_reducible apply u_div); focus first | decide | omega | (constructor <;> first | assumption | omega))
  | ((with_reducible apply u_mul); focus first | exact Or.inl (by omega) | exact Or.inr (by omega) | exact Or.inl (by decide) | exact Or.inr (by decide))
  | ((with_reducible apply u_ixL); (focus (first | assumption | exact SqL.of (by assumption) | exact SqL.of upd_same)); exact rfl)
  | ((with_reducible apply u_lenL); focus (first | assumption | exact SqL.of (by assumption) | exact SqL.of upd_same))
  | ((with_reducible apply u_lenT); focus (first | assumption | exact SqT.of (by assumption) | exact SqT.of upd_same))
  | ((with_reducible apply u_setL); (focus (first | assumption | exact upd_same)); exact rfl)
  | (with_reducible apply rd_chain3)
  | (with_reducible apply rd_tru)
  | (with_reducible apply rd_truB)
  | ((with_reducible apply rd_truL); focus (first | assumption | exact SqL.of (by assumption) | exact SqL.of upd_same))
  | (with_reducible apply rd_bm)
  | (with_reducible apply rd_bm0)
  | ((with_reducible apply rd_tyL); focus (first | exact SqL.of (by assumption) | exact SqL.of upd_same))
  | (with_reducible apply u_min3)
  | (with_reducible apply rd_rev)
  | (with_reducible apply rd_iList)
  | (with_reducible apply rd_iTup)
  | (with_reducible apply rd_for)
  | (with_reducible apply rd_rng1)
  | (with_reducible apply rd_rng2)
  | ((with_reducible apply rd_rng1e); (focus omega); (focus omega))
  | ((with_reducible apply rd_rng2e); (focus omega))
  | (with_reducible apply rd_gcons)
  | (with_reducible apply rd_gnil)
  | (with_reducible apply rd_retN)
  | (with_reducible apply g_eqI)
  | (with_reducible apply g_eqS)
  | (with_reducible apply g_neI)
  | (with_reducible apply g_neS)
  | (with_reducible apply g_neB)
  | (with_reducible apply rd_xf)
  | (with_reducible apply rd_raiseE)
  | (with_reducible apply rd_callS)
  | (with_reducible apply u_inD)
  | (with_reducible apply u_notInD)
  | (with_reducible apply u_inS)
  | (with_reducible apply u_notInS)
  | (with_reducible apply rd_iSeq)
  | ((with_reducible apply rd_seqL); (focus first | assumption | exact SqL.of (by assumption) | exact SqL.of upd_same))
  | ((with_reducible apply rd_seqT); (focus first | assumption | exact SqT.of (by assumption) | exact SqT.of upd_same))
  | (with_reducible apply rd_istr)
  | (with_reducible apply rd_istrE)
  | ((with_reducible apply u_isi); (focus (first | exact Or.inl rfl | exact Or.inr (Or.inl rfl) | exact Or.inr (Or.inr (Or.inl rfl)) | exact Or.inr (Or.inr (Or.inr rfl)))); (focus first | assumption | exact Rp.int _ | exact Rp.str _))
  | ((with_reducible apply rd_itL); (focus first | assumption | exact SqL.of (by assumption) | exact SqL.of upd_same))
  | ((with_reducible apply rd_itT); (focus first | assumption | exact SqT.of (by assumption) | exact SqT.of upd_same))
  | (with_reducible apply rd_lc)
  | (with_reducible apply rd_yes)
  | ((with_reducible apply u_pow); (focus (exact ⟨by decide, by decide, by decide⟩)))
  | (with_reducible apply u_mul; focus exact Or.inr cm)
  | (with_reducible apply rd_par3)
  | (with_reducible apply rd_par3_end)
  | ((with_reducible apply rd_aug); exact rfl)
  | (with_reducible apply rd_ipI)
  | (with_reducible apply rd_enA)
  | ((with_reducible apply u_enT); (focus first | assumption | exact SqT.of (by assumption) | exact SqT.of upd_same))
  | ((with_reducible apply u_enL); (focus first | assumption | exact SqL.of (by assumption) | exact SqL.of upd_same))
  | (with_reducible apply rd_zip)
  | (with_reducible apply rd_lc2)
  | ((with_reducible apply rd_gtup); (focus first | assumption | exact SqT.of (by assumption) | exact SqT.of upd_same); (focus rfl))
  | (with_reducible apply rd_dnew)
  | (with_reducible apply rd_din)
  | (with_reducible apply rd_dget)
  | (with_reducible apply rd_dput)
  | (with_reducible apply rd_disp1)
  | (with_reducible apply rd_sl)
  | (with_reducible apply rd_part)
  | (with_reducible apply rd_partI)
  | (with_reducible apply rd_nopart)
  | (with_reducible apply iteT)
  | (with_reducible apply iteF))
local macro_rules | `(tactic| walk_at "go") => `(tactic| repeat (walk_at "st"))
local macro_rules | `(tactic| walk_at "sp") => `(tactic| (first | refine rd_split (fun c => ?_) (fun c => ?_) | refine rd_splitN (fun c => ?_) (fun c => ?_) | refine rd_splitB (fun c => ?_) (fun c => ?_)))
local macro_rules | `(tactic| walk_at "nx") => `(tactic| repeat (first | (with_reducible apply iteF) | (with_reducible apply iteT) | (with_reducible apply rd_next)))

section
variable {P : Program} {w : World} {K : PySem.W.Frag} {mg : Str → Option Value} {base : Heap}
structure EntOk (e : Ent) : Prop where
  n : 0 ≤ e.n
  h : 0 ≤ e.h
  s : e.s.length ≤ 2
def spRn (K : PySem.W.Frag) : Sp := fun vs H Q _ => ∃ (a : Addr) (m : Int), vs = [.ref a, .int m] ∧ Src H a ∧ 0 ≤ m ∧ m ≤ 40 ∧
  ∀ (H' : Hp) (q : Addr) (xs : List V) (es : List Ent), SB a H H' → Src H' a → SqT K H' q xs → Rps K H' xs (es.map Ent.py) → (∀ e ∈ es, EntOk e) → es.length ≤ 40 → Q (.ref q) H'
theorem use_rn {K : PySem.W.Frag} {a : Addr} {m : Int} {H : Hp} {Q : VK} {E : XK} (h : Src H a) (h0 : 0 ≤ m) (h1 : m ≤ 40) (q : ∀ (H' : Hp) (q : Addr) (xs : List V) (es : List Ent), SB a H H' → Src H' a → SqT K H' q xs → Rps K H' xs (es.map Ent.py) → (∀ e ∈ es, EntOk e) → es.length ≤ 40 → Q (.ref q) H') : spRn K [.ref a, .int m] H Q E := ⟨a, m, rfl, h, h0, h1, q⟩
theorem SB.keep {a : Addr} {H H' : Hp} {p : Addr} (s : SB a H H') (n : p ≠ a) {o : HO} (h : H p = some o) : H' p = some o := s p o n h
abbrev s_law_run : Stmt := top 16
theorem sc_law_run : FnScope ["source", "most", "many", "step", "is_any", "high", "low", "found", "k", "needed", "held", "steps", "j"] ["source", "most"] (defScope s_law_run) := ⟨rfl, rfl, rfl, by decide +kernel, rfl, by decide +kernel, by decide +kernel⟩
theorem has_law_run (O : OwnF K mg "_law_run" s_law_run) (B : Bl mg) (h_law_take : HasF P w K mg base CX0 1 "_law_take" ["source", "top"] spTake) (h_law_one : HasF P w K mg base CX0 2 "_law_one" ["source", "things"] (spOne K)) : HasF P w K mg base CX0 3 "_law_run" ["source", "most"] (spRn K) := by
  refine has0 O sc_law_run (fun _ _ _ _ _ _ us hl => match us, hl with | [_, _], _ => rfl) (fun vs H Q E h => ?_) (fun f cdv A outer s_ H vs Q E hr h => ?_)
  · obtain ⟨a, m, rfl, _⟩ := h
    rfl
  obtain ⟨a, m, rfl, hS, hm0, hm1, q⟩ := h
  refine ⟨_, (pss_cons (ps_par3 (i := 2) (j := 3) (l := 4) (by rfl) sc_law_run.nd rfl rfl rfl (by decide) (by decide) (by decide) rfl rfl rfl (pa_cons (pe_callH h_law_take (hr.mono (by first | decide | omega)) (by rfl) pass0 (pa_cons (pv 0) (pa_cons (pe_op (kAdd K) (pv 1) pe_int) pa_nil))) (pa_cons (pe_callH h_law_one (hr.mono (by first | decide | omega)) (by rfl) pass0 (pa_cons (pv 0) (pa_cons (pe_lst (pa_cons pe_int (pa_cons pe_int (pa_cons pe_int (pa_cons (pe_op powU pe_int pe_int) pa_nil))))) pa_nil))) (pa_cons (pe_cmpR (kEqG K (hU hr)) (pe_callH h_law_take (hr.mono (by first | decide | omega)) (by rfl) pass0 (pa_cons (pv 0) (pa_cons pe_int pa_nil))) pe_int (nomark _)) pa_nil))) (by rfl)) (pss_cons (ps_par3 (i := 5) (j := 6) (l := 7) (by rfl) sc_law_run.nd rfl rfl rfl (by decide) (by decide) (by decide) rfl rfl rfl (pa_cons (pe_op (kAdd K) (pe_op (kAdd K) (pe_op (kMul K) pe_int (pv 2)) pe_int) (pe_callH h_law_take (hr.mono (by first | decide | omega)) (by rfl) pass0 (pa_cons (pv 0) (pa_cons pe_int pa_nil)))) (pa_cons pe_int (pa_cons (pe_lst pa_nil) pa_nil))) (by rfl)) (pss_cons (ps_for PassesOwn.never rfl (pi_range1 (by rfl) B.range (pa_cons (pv 2) pa_nil)) (pg_name (i := 8) sc_law_run.nd rfl (by first | exact Or.inl rfl | exact Or.inr rfl)) (pss_cons (ps_set (i := 5) sc_law_run.nd rfl (by first | exact Or.inl rfl | exact Or.inr rfl) (pe_op subU (pv 5) (pe_callH h_law_take (hr.mono (by first | decide | omega)) (by rfl) pass0 (pa_cons (pv 0) (pa_cons pe_int pa_nil))))) (pss_cons (ps_set (i := 6) sc_law_run.nd rfl (by first | exact Or.inl rfl | exact Or.inr rfl) (pe_op (kAdd K) (pv 6) (pe_callH h_law_take (hr.mono (by first | decide | omega)) (by rfl) pass0 (pa_cons (pv 0) (pa_cons pe_int pa_nil))))) (pss_cons (ps_set (i := 9) sc_law_run.nd rfl (by first | exact Or.inl rfl | exact Or.inr rfl) (pe_op subU (pv 5) (pe_op (kMul K) (pe_callH h_law_take (hr.mono (by first | decide | omega)) (by rfl) pass0 (pa_cons (pv 0) (pa_cons pe_int pa_nil))) (pe_callH h_law_take (hr.mono (by first | decide | omega)) (by rfl) pass0 (pa_cons (pv 0) (pa_cons pe_int pa_nil)))))) (pss_cons (ps_set (i := 10) sc_law_run.nd rfl (by first | exact Or.inl rfl | exact Or.inr rfl) (pe_op (kAdd K) (pv 6) (pe_op (kMul K) (pe_callH h_law_take (hr.mono (by first | decide | omega)) (by rfl) pass0 (pa_cons (pv 0) (pa_cons pe_int pa_nil))) (pe_callH h_law_take (hr.mono (by first | decide | omega)) (by rfl) pass0 (pa_cons (pv 0) (pa_cons pe_int pa_nil)))))) (pss_cons (ps_if (pt_truthK K (pv 4) (by intro _; rfl)) (pss_one (ps_par (i := 9) (j := 10) (by rfl) sc_law_run.nd rfl rfl (by decide) rfl rfl (pa_cons (pe_callH h_law_take (hr.mono (by first | decide | omega)) (by rfl) pass0 (pa_cons (pv 0) (pa_cons pe_int pa_nil))) (pa_cons (pe_callH h_law_take (hr.mono (by first | decide | omega)) (by rfl) pass0 (pa_cons (pv 0) (pa_cons pe_int pa_nil))) pa_nil)) (by rfl))) pss_nil) (pss_cons (ps_set (i := 11) sc_law_run.nd rfl (by first | exact Or.inl rfl | exact Or.inr rfl) (pe_callTy (kTup K) (by rfl) B.tuple (by decide +kernel) (pa_cons (pe_lc (own := [("j", 12)]) (g := gName 12) (tt := tYes) rfl sc_law_run.nd (pi_range1 (by rfl) B.range (pa_cons (pe_callH h_law_take (hr.mono (by first | decide | omega)) (by rfl) pass0 (pa_cons (pv 0) (pa_cons pe_int pa_nil))) pa_nil)) (blkOk_by (own := [("j", 12)]) (N := ["source", "most", "many", "step", "is_any", "high", "low", "found", "k", "needed", "held", "steps", "j"]) (sc := defScope s_law_run) (by decide +kernel)) (fun _ _ _ _ _ => (pg_name (i := 12) sc_law_run.nd rfl (by first | exact Or.inl rfl | exact Or.inr rfl))) (fun _ _ _ _ _ => pts_nil) (fun _ _ _ _ _ => (pe_op (kAdd K) (pe_op (kMul K) pe_int (pv 8)) (pv 12)))) pa_nil))) (pss_one (ps_expr (pe_bmK K PySem.F.plainAttrs_list PySem.F.slot_list_append PySem.F.type_list_append mt_append (pv 7) (pa_cons (pe_tup (pa_cons (pe_op (kMul K) (pv 3) (pv 9)) (pa_cons (pe_op (kMul K) (pv 3) (pv 10)) (pa_cons (pv 11) pa_nil)))) pa_nil))))))))))) (pss_one (ps_ret (pe_callTy (kTup K) (by rfl) B.tuple (by decide +kernel) (pa_cons (pv 7) pa_nil))))))), ?_⟩
  refine st0 [some (.ref a), some (.int m), none, none, none, none, none, none, none, none, none, none, none] rfl ?_
  walk_at "go"
  refine use_take hS (by omega) (by omega) fun H1 r s1 hS1 hr0 hr1 => ?_
  walk_at "go"
  refine ⟨lk rfl, fun p hp => ?_⟩
  walk_at "go"
  refine use_one (xs := [.int 1, .int 1, .int 1, .int (10 ^ (20 : Int).toNat)]) (hS1.new hp) (SqL.of upd_same) (hS1.ne hp) (by simp) (by simp) fun H2 v s2 hS2 hv => ?_
  have sb2 : SB a H H2 := (s1.trans (SB.refl.new hp)).trans s2
  obtain ⟨st, rfl, hst⟩ : ∃ st : Int, v = .int st ∧ 0 ≤ st := by
    have hv' : v = .int 1 ∨ v = .int (10 ^ (20 : Int).toNat) := by simpa using hv
    rcases hv' with rfl | rfl
    · exact ⟨_, rfl, by decide⟩
    · exact ⟨_, rfl, by decide⟩
  walk_at "go"
  refine use_take hS2 (by omega) (by omega) fun H3 r3 s3 hS3 h30 h31 => ?_
  walk_at "go"
  refine use_take hS3 (by omega) (by omega) fun H4 r4 s4 hS4 h40 h41 => ?_
  walk_at "go"
  refine ⟨lk rfl, fun p2 hp2 => ?_⟩
  walk_at "go"
  have hp2H : H p2 = none := (((sb2.trans s3).trans s4)).fresh (hS4.ne hp2) hp2
  have np2 := hS4.ne hp2
  have sb4 := (sb2.trans s3).trans s4
  refine forR (fun i σ H' => ∃ (b : Bool) (hi lo : Int) (ws : List V) (es : List Ent) (o8 o9 o10 o11 : Option V), σ = [some (.ref a), some (.int m), some (.int r), some (.int st), some (.bl b), some (.int hi), some (.int lo), some (.ref p2), o8, o9, o10, o11, none] ∧ SB a H H' ∧ Src H' a ∧ H' p2 = some (.lst ws) ∧ Rps K H' ws (es.map Ent.py) ∧ (∀ e ∈ es, EntOk e) ∧ es.length = i ∧ 4 * r + 6 - 3 * (i : Int) ≤ hi ∧ hi ≤ 4 * r + 14 ∧ 0 ≤ lo ∧ lo ≤ 3 * (i : Int))
    ⟨decide (r3 = 0), 4 * r + 6 + r4, 0, [], [], _, _, _, _, rfl, sb4.new hp2, hS4.new hp2, upd_same, .nil, fun _ z => (by cases z), rfl, by omega, by omega, by omega, by omega⟩ ?_ ?_
  · rintro i σ H' hi' ⟨b, hi, lo, ws, es, o8, o9, o10, o11, rfl, g1, g2, g3, g4, g5, g6, g7, g8, g9', g10⟩
    have lw : ws.length = i := by rw [g4.length, List.length_map]; exact g6
    have hir : (i : Int) < r := by omega
    walk_at "go"
    refine use_take g2 (by omega) (by omega) fun Ha r5 sa hSa h50 h51 => ?_
    walk_at "go"
    refine use_take hSa (by omega) (by omega) fun Hb r6 sb hSb h60 h61 => ?_
    walk_at "go"
    refine use_take hSb (by omega) (by omega) fun Hc r7 sc hSc h70 h71 => ?_
    walk_at "go"
    refine use_take hSc (by omega) (by omega) fun Hd r7b sd hSd h7b0 h7b1 => ?_
    have m1 : 0 ≤ r7 * r7b ∧ r7 * r7b ≤ 5 := by
      rcases (by omega : r7 = 0 ∨ r7 = 1) with z | z <;> rw [z] <;> omega
    walk_at "go"
    refine use_take hSd (by omega) (by omega) fun He r7c se hSe h7c0 h7c1 => ?_
    walk_at "go"
    refine use_take hSe (by omega) (by omega) fun Hf r7d sf hSf h7d0 h7d1 => ?_
    have m2 : 0 ≤ r7c * r7d ∧ r7c * r7d ≤ 4 := by
      rcases (by omega : r7c = 0 ∨ r7c = 1) with z | z <;> rw [z] <;> omega
    have sf' : SB a H' Hf := ((((sa.trans sb).trans sc).trans sd).trans se).trans sf
    have gf := sf'.keep np2 g3
    have gRf := g4.mono (g2.ext (K := K) sf') _ _
    have gSf := g1.trans sf'
    obtain ⟨n1, en1, n1a, n1b⟩ : ∃ n1, hi - r5 - r7 * r7b = n1 ∧ 0 ≤ n1 ∧ n1 ≤ 1000 := ⟨_, rfl, by omega, by omega⟩
    obtain ⟨n2, en2, n2a, n2b⟩ : ∃ n2, lo + r6 + r7c * r7d = n2 ∧ 0 ≤ n2 ∧ n2 ≤ 1000 := ⟨_, rfl, by omega, by omega⟩
    rw [en1]
    walk_at "go"
    rw [en2]
    walk_at "go"
    refine rd_splitB (fun cb => ?_) (fun cb => ?_)
    · walk_at "go"
      refine use_take hSf (by omega) (by omega) fun Hg r9 sg hSg h90 h91 => ?_
      walk_at "go"
      refine use_take hSg (by omega) (by omega) fun Hh r9b sh hSh h9b0 h9b1 => ?_
      have sh' := sg.trans sh
      have gh := sh'.keep np2 gf
      have gRh := gRf.mono (hSf.ext (K := K) sh') _ _
      have gSh := gSf.trans sh'
      walk_at "go"
      refine use_take hSh (by omega) (by omega) fun H8 r8 s8 hS8 h80 h81 => ?_
      walk_at "go"
      intro D hD
      refine lc_range (lo := 0) (n := r8.toNat) (fun j H9 => ∃ ns : List Int, H9 D = some (.lst (ns.map V.int)) ∧ ns.length = j ∧ Same H8 H9) ⟨[], upd_same, rfl, Same.upd_new (Same.refl H8) hD⟩ ?_ ?_
      · rintro j H9 hj ⟨ns, y1, y2, y3⟩
        walk_at "go"
        refine ⟨rfl, ?_⟩
        walk_at "go"
        exact ⟨_, y1, by rw [List.length_map]; exact ls (by omega), ns ++ [10 * (0 + (i : Int)) + (0 + (j : Int))], by rw [upd_same, List.map_append]; rfl, by rw [List.length_append, y2]; rfl, Same.upd_new y3 hD⟩
      rintro H9 ⟨ns, y1, y2, y3⟩
      walk_at "go"
      refine u_tupL (SqL.of y1) fun p6 hp6 => ?_
      walk_at "go"
      have g9 : Same H8 (upd H9 p6 (.tup (ns.map V.int))) := Same.new y3 hp6
      have y4 : SqT K (upd H9 p6 (.tup (ns.map V.int))) p6 (ns.map V.int) := SqT.of upd_same
      have y5 := g9 _ _ (s8.keep np2 gh)
      have y6 := gRh.mono ((hSh.ext (K := K) s8).trans (Ext.of_same g9)) _ _
      have y7 : SB a H (upd H9 p6 (.tup (ns.map V.int))) := (gSh.trans s8).trans (SB.of_same g9)
      have hSA := hS8.same g9
      generalize upd H9 p6 (.tup (ns.map V.int)) = HA at *
      refine rd_tyL (SqL.of y5) ?_
      walk_at "go"
      refine ⟨lk rfl, fun p7 hp7 => ?_⟩
      have n7 : p2 ≠ p7 := ne_of_none y5 hp7
      have y8 : (upd HA p7 (.tup [.int (st * r9), .int (st * r9b), .ref p6])) p2 = some (.lst ws) := by rw [upd_ne n7]; exact y5
      have x8 : Ext K HA (upd (upd HA p7 (.tup [.int (st * r9), .int (st * r9b), .ref p6])) p2 (.lst (ws ++ [.ref p7]))) := (Ext.new hp7).trans (Ext.set y8 trivial)
      walk_at "go"
      refine u_app y8 (ls (by omega)) ?_
      refine ⟨b, hi - r5, lo + r6, ws ++ [.ref p7], es ++ [⟨st * r9, st * r9b, ns⟩], _, _, _, _, rfl, (y7.new hp7).upd_new hp2H, (hSA.new hp7).set np2, upd_same, ?_, ?_, ?_, by omega, by omega, by omega, by omega⟩
      · rw [List.map_append]
        refine (y6.mono x8 _ _).append (.one (.tup (SqT.of (by rw [upd_ne n7.symm]; exact upd_same)) ?_))
        exact .cons (.int _) (.cons (.int _) (.cons (.tup (x8 _ _ y4) (Rps.ints _)) .nil))
      · intro e he
        rcases List.mem_append.mp he with he | he
        · exact g5 e he
        · obtain rfl : e = ⟨st * r9, st * r9b, ns⟩ := by simpa using he
          exact ⟨Int.mul_nonneg hst (by omega), Int.mul_nonneg hst (by omega), by show ns.length ≤ 2; omega⟩
      · rw [List.length_append, g6] <;> rfl
    · walk_at "go"
      refine use_take hSf (by omega) (by omega) fun H8 r8 s8 hS8 h80 h81 => ?_
      walk_at "go"
      intro D hD
      refine lc_range (lo := 0) (n := r8.toNat) (fun j H9 => ∃ ns : List Int, H9 D = some (.lst (ns.map V.int)) ∧ ns.length = j ∧ Same H8 H9) ⟨[], upd_same, rfl, Same.upd_new (Same.refl H8) hD⟩ ?_ ?_
      · rintro j H9 hj ⟨ns, y1, y2, y3⟩
        walk_at "go"
        refine ⟨rfl, ?_⟩
        walk_at "go"
        exact ⟨_, y1, by rw [List.length_map]; exact ls (by omega), ns ++ [10 * (0 + (i : Int)) + (0 + (j : Int))], by rw [upd_same, List.map_append]; rfl, by rw [List.length_append, y2]; rfl, Same.upd_new y3 hD⟩
      rintro H9 ⟨ns, y1, y2, y3⟩
      walk_at "go"
      refine u_tupL (SqL.of y1) fun p6 hp6 => ?_
      walk_at "go"
      have g9 : Same H8 (upd H9 p6 (.tup (ns.map V.int))) := Same.new y3 hp6
      have y4 : SqT K (upd H9 p6 (.tup (ns.map V.int))) p6 (ns.map V.int) := SqT.of upd_same
      have y5 := g9 _ _ (s8.keep np2 gf)
      have y6 := gRf.mono ((hSf.ext (K := K) s8).trans (Ext.of_same g9)) _ _
      have y7 : SB a H (upd H9 p6 (.tup (ns.map V.int))) := (gSf.trans s8).trans (SB.of_same g9)
      have hSA := hS8.same g9
      generalize upd H9 p6 (.tup (ns.map V.int)) = HA at *
      refine rd_tyL (SqL.of y5) ?_
      walk_at "go"
      refine ⟨lk rfl, fun p7 hp7 => ?_⟩
      have n7 : p2 ≠ p7 := ne_of_none y5 hp7
      have y8 : (upd HA p7 (.tup [.int (st * n1), .int (st * n2), .ref p6])) p2 = some (.lst ws) := by rw [upd_ne n7]; exact y5
      have x8 : Ext K HA (upd (upd HA p7 (.tup [.int (st * n1), .int (st * n2), .ref p6])) p2 (.lst (ws ++ [.ref p7]))) := (Ext.new hp7).trans (Ext.set y8 trivial)
      walk_at "go"
      refine u_app y8 (ls (by omega)) ?_
      refine ⟨b, hi - r5, lo + r6, ws ++ [.ref p7], es ++ [⟨st * n1, st * n2, ns⟩], _, _, _, _, rfl, (y7.new hp7).upd_new hp2H, (hSA.new hp7).set np2, upd_same, ?_, ?_, ?_, by omega, by omega, by omega, by omega⟩
      · rw [List.map_append]
        refine (y6.mono x8 _ _).append (.one (.tup (SqT.of (by rw [upd_ne n7.symm]; exact upd_same)) ?_))
        exact .cons (.int _) (.cons (.int _) (.cons (.tup (x8 _ _ y4) (Rps.ints _)) .nil))
      · intro e he
        rcases List.mem_append.mp he with he | he
        · exact g5 e he
        · obtain rfl : e = ⟨st * n1, st * n2, ns⟩ := by simpa using he
          exact ⟨Int.mul_nonneg hst (by omega), Int.mul_nonneg hst (by omega), by show ns.length ≤ 2; omega⟩
      · rw [List.length_append, g6] <;> rfl
  · rintro σ H' ⟨b, hi, lo, ws, es, o8, o9, o10, o11, rfl, g1, g2, g3, g4, g5, g6, g7, g8, g9', g10⟩
    walk_at "go"
    refine u_tupL (SqL.of g3) fun l hl => ?_
    exact q _ l ws es (g1.new hl) (g2.new hl) (SqT.of upd_same) (g4.mono (Ext.new hl) _ _) g5 (by omega)
end
end Mine

/-! ### G6 -/
namespace Mine
open PySem PySem.Spec L2
local macro_rules | `(tactic| walk_at "st") => `(tactic| first
  | ((with_reducible apply rd_var); exact rfl)
  | (with_reducible apply rd_c)
  | (with_reducible apply rd_seq)
  | (with_reducible apply rd_asg)
  | (with_reducible apply rd_gname)
  | (with_reducible apply rd_op)
  | (with_reducible apply rd_cb)
  | (with_reducible apply rd_cons)
  | (with_reducible apply rd_nil)
  | (with_reducible apply rd_if)
  | (with_reducible apply rd_test)
  | (with_reducible apply rd_bl)
  | (with_reducible apply rd_retE)
  | (with_reducible apply rd_ret)
  | (with_reducible apply rd_call)
  | (with_reducible apply rd_tup)
  | (with_reducible apply rd_lst)
  | (with_reducible apply rd_drop)
  | (with_reducible apply rd_next)
  | (with_reducible apply rd_ife)
  | (with_reducible apply rd_gsub)
  | (with_reducible apply rd_par)
  | (with_reducible apply rd_par_end)
  | (with_reducible apply rd_un)
  | (with_reducible apply rd_and)
  | (with_reducible apply rd_or)
  | (with_reducible apply rd_not)
  | (with_reducible apply rd_andV)
  | (with_reducible apply rd_orV)
  | (with_reducible apply rd_notV)
  | (with_reducible apply rd_chain)
  | (with_reducible apply rd_tB)
  | (with_reducible apply rd_brk)
  | (with_reducible apply rd_ct)
  | (with_reducible apply u_add)
  | (with_reducible apply u_sub)
  | (with_reducible apply u_lt)
  | (with_reducible apply u_le)
  | (with_reducible apply u_gt)
  | (with_reducible apply u_ge)
  | (with_reducible apply u_eqI)
  | (with_reducible apply u_eqS)
  | (with_reducible apply u_neI)
  | (with_reducible apply u_int)
  | (with_reducible apply u_intB)
  | (with_reducible apply u_max)
  | (with_reducible apply u_min)
  | (with_reducible apply u_neg)
  | ((with_reducible apply u_mod); focus first | assumption | decide | omega)
  | ((with_reducible apply u_div); focus first | decide | omega | (constructor <;> first | assumption | omega))
  | ((with_reducible apply u_mul); focus first | exact Or.inl (by omega) | exact Or.inr (by omega) | exact Or.inl (by decide) | exact Or.inr (by decide))
  | ((with_reducible apply u_ixL); (focus (first | assumption | exact SqL.of (by assumption) | exact SqL.of upd_same)); exact rfl)
  | ((with_reducible apply u_lenL); focus (first | assumption | exact SqL.of (by assumption) | exact SqL.of upd_same))
  | ((with_reducible apply u_lenT); focus (first | assumption | exact SqT.of (by assumption) | exact SqT.of upd_same))
  | ((with_reducible apply u_setL); (focus (first | assumption | exact upd_same)); exact rfl)
  | (with_reducible apply rd_chain3)
  | (with_reducible apply rd_tru)
  | (with_reducible apply rd_truB)
  | ((with_reducible apply rd_truL); focus (first | assumption | exact SqL.of (by assumption) | exact SqL.of upd_same))
  | (with_reducible apply rd_bm)
  | (with_reducible apply rd_bm0)
  | ((with_reducible apply rd_tyL); focus (first | exact SqL.of (by assumption) | exact SqL.of upd_same))
  | (with_reducible apply u_min3)
  | (with_reducible apply rd_rev)
  | (with_reducible apply rd_iList)
  | (with_reducible apply rd_iTup)
  | (with_reducible apply rd_for)
  | (with_reducible apply rd_rng1)
  | (with_reducible apply rd_rng2)
  | ((with_reducible apply rd_rng1e); (focus omega); (focus omega))
  | ((with_reducible apply rd_rng2e); (focus omega))
  | (with_reducible apply rd_gcons)
  | (with_reducible apply rd_gnil)
  | (with_reducible apply rd_retN)
  | (with_reducible apply g_eqI)
  | (with_reducible apply g_eqS)
  | (with_reducible apply g_neI)
  | (with_reducible apply g_neS)
  | (with_reducible apply g_neB)
  | (with_reducible apply rd_xf)
  | (with_reducible apply rd_raiseE)
  | (with_reducible apply rd_callS)
  | (with_reducible apply u_inD)
  | (with_reducible apply u_notInD)
  | (with_reducible apply u_inS)
  | (with_reducible apply u_notInS)
  | (with_reducible apply rd_iSeq)
  | ((with_reducible apply rd_seqL); (focus first | assumption | exact SqL.of (by assumption) | exact SqL.of upd_same))
  | ((with_reducible apply rd_seqT); (focus first | assumption | exact SqT.of (by assumption) | exact SqT.of upd_same))
  | (with_reducible apply rd_istr)
  | (with_reducible apply rd_istrE)
  | ((with_reducible apply u_isi); (focus (first | exact Or.inl rfl | exact Or.inr (Or.inl rfl) | exact Or.inr (Or.inr (Or.inl rfl)) | exact Or.inr (Or.inr (Or.inr rfl)))); (focus first | assumption | exact Rp.int _ | exact Rp.str _))
  | ((with_reducible apply rd_itL); (focus first | assumption | exact SqL.of (by assumption) | exact SqL.of upd_same))
  | ((with_reducible apply rd_itT); (focus first | assumption | exact SqT.of (by assumption) | exact SqT.of upd_same))
  | (with_reducible apply rd_lc)
  | (with_reducible apply rd_yes)
  | ((with_reducible apply u_pow); (focus (exact ⟨by decide, by decide, by decide⟩)))
  | (with_reducible apply u_mul; focus exact Or.inr cm)
  | (with_reducible apply rd_par3)
  | (with_reducible apply rd_par3_end)
  | ((with_reducible apply rd_aug); exact rfl)
  | (with_reducible apply rd_ipI)
  | (with_reducible apply rd_enA)
  | ((with_reducible apply u_enT); (focus first | assumption | exact SqT.of (by assumption) | exact SqT.of upd_same))
  | ((with_reducible apply u_enL); (focus first | assumption | exact SqL.of (by assumption) | exact SqL.of upd_same))
  | (with_reducible apply rd_zip)
  | (with_reducible apply rd_lc2)
  | ((with_reducible apply rd_gtup); (focus first | assumption | exact SqT.of (by assumption) | exact SqT.of upd_same); (focus rfl))
  | (with_reducible apply rd_dnew)
  | (with_reducible apply rd_din)
  | (with_reducible apply rd_dget)
  | (with_reducible apply rd_dput)
  | (with_reducible apply rd_disp1)
  | (with_reducible apply rd_sl)
  | (with_reducible apply rd_part)
  | (with_reducible apply rd_partI)
  | (with_reducible apply rd_nopart)
  | (with_reducible apply iteT)
  | (with_reducible apply iteF))
local macro_rules | `(tactic| walk_at "go") => `(tactic| repeat (walk_at "st"))
local macro_rules | `(tactic| walk_at "sp") => `(tactic| (first | refine rd_split (fun c => ?_) (fun c => ?_) | refine rd_splitN (fun c => ?_) (fun c => ?_) | refine rd_splitB (fun c => ?_) (fun c => ?_)))
local macro_rules | `(tactic| walk_at "nx") => `(tactic| repeat (first | (with_reducible apply iteF) | (with_reducible apply iteT) | (with_reducible apply rd_next)))

section
variable {P : Program} {w : World} {K : PySem.W.Frag} {mg : Str → Option Value} {base : Heap}
theorem Rps.dropE {K : PySem.W.Frag} {H : Hp} {xs : List V} {es : List Ent} (n : Nat) (r : Rps K H xs (es.map Ent.py)) : Rps K H (xs.drop n) ((es.drop n).map Ent.py) := by rw [List.map_drop]; exact r.drop n
theorem Rps.takeE {K : PySem.W.Frag} {H : Hp} {xs : List V} {es : List Ent} (n : Nat) (r : Rps K H xs (es.map Ent.py)) : Rps K H (xs.take n) ((es.take n).map Ent.py) := by rw [List.map_take]; exact r.take n
theorem Rps.atE {K : PySem.W.Frag} {H : Hp} {xs : List V} {es : List Ent} {k : Nat} {x : V} (r : Rps K H xs (es.map Ent.py)) (h : xs[k]? = some x) : ∃ e, es[k]? = some e ∧ Rp K H x e.py := by
  obtain ⟨d, hd, rd⟩ := r.getV h
  rw [List.getElem?_map, Option.map_eq_some_iff] at hd
  obtain ⟨e, he, rfl⟩ := hd
  exact ⟨e, he, rd⟩
theorem Rps.lenE {K : PySem.W.Frag} {H : Hp} {xs : List V} {es : List Ent} (r : Rps K H xs (es.map Ent.py)) : xs.length = es.length := by rw [r.length, List.length_map]
theorem nV_ints (l : List Nat) : nV l = (l.map fun (n : Nat) => (n : Int)).map V.int := by unfold nV; rw [List.map_map] <;> rfl
theorem nV_snoc (l : List Nat) (t k : Nat) : nV (l ++ [t + k]) = nV l ++ [V.int ((t : Int) + (k : Int))] := by
  unfold nV
  rw [List.map_append]
  simp
def spLh (K : PySem.W.Frag) : Sp := fun vs H Q _ => ∃ (a : Addr) (xs : List V) (bs : List Bk), vs = [.ref a] ∧ SqT K H a xs ∧ Rps K H xs ((fl bs).map Ent.py) ∧ Good bs ∧ (fl bs).length ≤ 1000 ∧ ((fl bs).flatMap Ent.s).length ≤ 100000 ∧
  ∀ (H' : Hp) (p : Addr) (ws : List V), Same H H' → H p = none → H' p = some (.lst ws) → Rps K H' ws ((bs.map seg).map Ent.py) → Q (.ref p) H'
abbrev s_law_hills : Stmt := top 17
theorem sc_law_hills : FnScope ["walk", "found", "at", "turn", "rest", "hill", "step", "top", "k", "low", "end", "steps"] ["walk"] (defScope s_law_hills) := ⟨rfl, rfl, rfl, by decide +kernel, rfl, by decide +kernel, by decide +kernel⟩
theorem has_law_hills (O : OwnF K mg "_law_hills" s_law_hills) (B : Bl mg) : HasF P w K mg base CX0 1 "_law_hills" ["walk"] (spLh K) := by
  refine has0 O sc_law_hills (fun _ _ _ _ _ _ us hl => match us, hl with | [_], _ => rfl) (fun vs H Q E h => ?_) (fun f cdv A outer s_ H vs Q E hr h => ?_)
  · obtain ⟨a, xs, bs, rfl, _⟩ := h
    rfl
  obtain ⟨a, xs, bs, rfl, hs, hR, hG, hl, hb, q⟩ := h
  have lx := hR.lenE
  have lbs := hG.card
  refine ⟨_, (pss_cons (ps_par (i := 1) (j := 2) (by rfl) sc_law_hills.nd rfl rfl (by decide) rfl rfl (pa_cons (pe_lst pa_nil) (pa_cons pe_int pa_nil)) (by rfl)) (pss_cons (ps_for PassesOwn.never rfl (pi_range1 (by rfl) B.range (pa_cons (pe_callB (kLen K) (by rfl) B.len (by decide +kernel) (pa_cons (pv 0) pa_nil)) pa_nil)) (pg_name (i := 3) sc_law_hills.nd rfl (by first | exact Or.inl rfl | exact Or.inr rfl)) (pss_one (ps_if (pt_cmpR ltU (pv 2) (pe_callB (kLen K) (by rfl) B.len (by decide +kernel) (pa_cons (pv 0) pa_nil)) (nomark _)) (pss_cons (ps_set (i := 4) sc_law_hills.nd rfl (by first | exact Or.inl rfl | exact Or.inr rfl) (pe_slice (kSl K) (pv 0) (po_some (pv 2)) po_none)) (pss_cons (ps_set (i := 5) sc_law_hills.nd rfl (by first | exact Or.inl rfl | exact Or.inr rfl) (pe_callB (cr_max rfl) (by rfl) B.max (by decide +kernel) (pa_cons (pe_lc (own := [("step", 6)]) (g := gName 6) (tt := tYes) rfl sc_law_hills.nd (pi_tupK K (pv 4)) (blkOk_by (own := [("step", 6)]) (N := ["walk", "found", "at", "turn", "rest", "hill", "step", "top", "k", "low", "end", "steps"]) (sc := defScope s_law_hills) (by decide +kernel)) (fun _ _ _ _ _ => (pg_name (i := 6) sc_law_hills.nd rfl (by first | exact Or.inl rfl | exact Or.inr rfl))) (fun _ _ _ _ _ => pts_nil) (fun _ _ _ _ _ => (pe_ix (kIx K) (pv 6) pe_int (fun _ _ => rfl)))) pa_nil))) (pss_cons (ps_set (i := 7) sc_law_hills.nd rfl (by first | exact Or.inl rfl | exact Or.inr rfl) (pe_callB (cr_max rfl) (by rfl) B.max (by decide +kernel) (pa_cons (pe_lc (own := [("k", 8)]) (g := gName 8) (tt := _) rfl sc_law_hills.nd (pi_range1 (by rfl) B.range (pa_cons (pe_callB (kLen K) (by rfl) B.len (by decide +kernel) (pa_cons (pv 4) pa_nil)) pa_nil)) (blkOk_by (own := [("k", 8)]) (N := ["walk", "found", "at", "turn", "rest", "hill", "step", "top", "k", "low", "end", "steps"]) (sc := defScope s_law_hills) (by decide +kernel)) (fun _ _ _ _ _ => (pg_name (i := 8) sc_law_hills.nd rfl (by first | exact Or.inl rfl | exact Or.inr rfl))) (fun _ _ _ _ _ => (pts_one (pt_cmpR (kEqG K (hU hr)) (pe_ix (kIx K) (pe_ix (kIx K) (pv 4) (pv 8) (fun _ _ => rfl)) pe_int (fun _ _ => rfl)) (pv 5) (nomark _)))) (fun _ _ _ _ _ => (pv 8))) pa_nil))) (pss_cons (ps_set (i := 9) sc_law_hills.nd rfl (by first | exact Or.inl rfl | exact Or.inr rfl) (pe_callB (cr_min rfl) (by rfl) B.min (by decide +kernel) (pa_cons (pe_lc (own := [("step", 6)]) (g := gName 6) (tt := tYes) rfl sc_law_hills.nd (pi_tupK K (pe_slice (kSl K) (pv 4) (po_some (pv 7)) po_none)) (blkOk_by (own := [("step", 6)]) (N := ["walk", "found", "at", "turn", "rest", "hill", "step", "top", "k", "low", "end", "steps"]) (sc := defScope s_law_hills) (by decide +kernel)) (fun _ _ _ _ _ => (pg_name (i := 6) sc_law_hills.nd rfl (by first | exact Or.inl rfl | exact Or.inr rfl))) (fun _ _ _ _ _ => pts_nil) (fun _ _ _ _ _ => (pe_ix (kIx K) (pv 6) pe_int (fun _ _ => rfl)))) pa_nil))) (pss_cons (ps_set (i := 10) sc_law_hills.nd rfl (by first | exact Or.inl rfl | exact Or.inr rfl) (pe_callB (cr_max rfl) (by rfl) B.max (by decide +kernel) (pa_cons (pe_lc (own := [("k", 8)]) (g := gName 8) (tt := _) rfl sc_law_hills.nd (pi_range2 (by rfl) B.range (pa_cons (pv 7) (pa_cons (pe_callB (kLen K) (by rfl) B.len (by decide +kernel) (pa_cons (pv 4) pa_nil)) pa_nil))) (blkOk_by (own := [("k", 8)]) (N := ["walk", "found", "at", "turn", "rest", "hill", "step", "top", "k", "low", "end", "steps"]) (sc := defScope s_law_hills) (by decide +kernel)) (fun _ _ _ _ _ => (pg_name (i := 8) sc_law_hills.nd rfl (by first | exact Or.inl rfl | exact Or.inr rfl))) (fun _ _ _ _ _ => (pts_one (pt_cmpR (kEqG K (hU hr)) (pe_ix (kIx K) (pe_ix (kIx K) (pv 4) (pv 8) (fun _ _ => rfl)) pe_int (fun _ _ => rfl)) (pv 9) (nomark _)))) (fun _ _ _ _ _ => (pv 8))) pa_nil))) (pss_cons (ps_set (i := 11) sc_law_hills.nd rfl (by first | exact Or.inl rfl | exact Or.inr rfl) (pe_tup pa_nil)) (pss_cons (ps_for PassesOwn.never rfl (pi_tupK K (pe_slice (kSl K) (pv 4) po_none (po_some (pe_op (kAdd K) (pv 10) pe_int)))) (pg_name (i := 6) sc_law_hills.nd rfl (by first | exact Or.inl rfl | exact Or.inr rfl)) (pss_one (ps_set (i := 11) sc_law_hills.nd rfl (by first | exact Or.inl rfl | exact Or.inr rfl) (pe_op (kAdd K) (pv 11) (pe_ix (kIx K) (pv 6) pe_int (fun _ _ => rfl)))))) (pss_cons (ps_expr (pe_bmK K PySem.F.plainAttrs_list PySem.F.slot_list_append PySem.F.type_list_append mt_append (pv 1) (pa_cons (pe_tup (pa_cons (pv 5) (pa_cons (pv 9) (pa_cons (pv 11) pa_nil)))) pa_nil))) (pss_one (ps_aug (i := 2) sc_law_hills.nd rfl (by first | exact Or.inl rfl | exact Or.inr rfl) (pe_op (kAdd K) (pv 10) pe_int) ip_add)))))))))) pss_nil))) (pss_one (ps_ret (pv 1))))), ?_⟩
  refine st0 [some (.ref a), none, none, none, none, none, none, none, none, none, none, none] rfl ?_
  walk_at "go"
  refine ⟨lk rfl, fun p hp => ?_⟩
  have hs0 := Ext.new (K := K) (o := .lst []) hp _ _ hs
  walk_at "go"
  refine forR (fun i σ H' => ∃ (ws : List V) (o3 o4 o5 o6 o7 o9 o10 o11 : Option V), σ = [some (.ref a), some (.ref p), some (.int ((fl (bs.take i)).length : Nat)), o3, o4, o5, o6, o7, none, o9, o10, o11] ∧ Same H H' ∧ H' p = some (.lst ws) ∧ Rps K H' ws (((bs.take i).map seg).map Ent.py))
    ⟨[], _, _, _, _, _, _, _, _, rfl, same_new hp _, upd_same, .nil⟩ ?_ ?_
  · rintro i σ H1 hi ⟨ws, o3, o4, o5, o6, o7, o9, o10, o11, rfl, s1, f1, f2⟩
    have hs1 := Ext.of_same (K := K) s1 _ _ hs
    walk_at "go"
    rcases Nat.lt_or_ge i bs.length with hib | hib
    rotate_left
    · rw [List.take_of_length_le hib] at *
      refine rd_split (fun c => absurd c (by omega)) (fun c => ?_)
      walk_at "go"
      have e2 : bs.take (i + 1) = bs := List.take_of_length_le (by omega)
      rw [e2]
      exact ⟨ws, _, _, _, _, _, _, _, _, rfl, s1, f1, f2⟩
    obtain ⟨b, r, er, eb⟩ : ∃ b r, bs.drop i = b :: r ∧ bs[i]? = some b := ⟨bs[i], bs.drop (i + 1), List.drop_eq_getElem_cons hib, List.getElem?_eq_getElem hib⟩
    have hG' : Good (b :: r) := er ▸ hG.drop i
    have hfl : (fl bs).drop (fl (bs.take i)).length = fl (b :: r) := by rw [drop_fl, er]
    have lrest : (fl (b :: r)).length = (fl bs).length - (fl (bs.take i)).length := by rw [← hfl, List.length_drop]
    have hlen := hG'.len
    have hpos : 0 < (fl (b :: r)).length := by
      rw [fl_cons, List.length_append]
      omega
    refine rd_split (fun c => ?_) (fun c => absurd (show ((fl (bs.take i)).length : Int) < (xs.length : Int) by omega) c)
    walk_at "go"
    refine u_slS hs1 fun q1 H2 s2 hq1 => ?_
    rw [cut_from] at hq1
    have hR2 : Rps K H2 (xs.drop (fl (bs.take i)).length) ((fl (b :: r)).map Ent.py) := by
      rw [← hfl]
      exact (Rps.dropE _ hR).mono (Ext.of_same (s1.trans s2)) _ _
    generalize xs.drop (fl (bs.take i)).length = xr at *
    have lxr := hR2.lenE
    have lfr : (fl (b :: r)).length ≤ 1000 := by omega
    walk_at "go"
    intro D1 hD1
    refine lc_tup (xs := xr) (fun k H' => H' D1 = some (.lst ((((fl (b :: r)).take k).map Ent.n).map V.int)) ∧ Same H2 H') ⟨upd_same, Same.upd_new (Same.refl H2) hD1⟩ ?_ ?_ ?_
    · rintro k H' hk ⟨g1, g2⟩
      exact Ext.of_same g2 _ _ hq1
    · rintro k x H' hx ⟨g1, g2⟩
      obtain ⟨e, he, re⟩ := hR2.atE hx
      obtain ⟨ax, bx, rfl, sx, _⟩ := (re.mono (Ext.of_same g2) _ _).ent
      walk_at "go"
      refine ⟨rfl, ?_⟩
      walk_at "go"
      refine u_ixT sx rfl ?_
      refine ⟨_, g1, ?_, ?_, Same.upd_new g2 hD1⟩
      · rw [List.length_map, List.length_map, List.length_take]
        exact ls (by omega)
      · rw [upd_same, List.take_add_one, he, List.map_append, List.map_append]
        rfl
    rintro H3 ⟨g1, s3⟩
    rw [lxr, List.take_length] at g1
    walk_at "go"
    refine ⟨D1, (fl (b :: r)).map Ent.n, rfl, SqL.of g1, by rw [List.length_map]; exact hpos, fun m hm hle => ?_⟩
    have em := hG'.hill hm hle
    subst em
    have hq3 := Ext.of_same (K := K) s3 _ _ hq1
    walk_at "go"
    intro D2 hD2
    refine lc_range (lo := 0) (n := ((xr.length : Nat) : Int).toNat) (fun k H' => H' D2 = some (.lst (nV (idx (fun e => decide (e.n = b.H)) (fl (b :: r)) 0 k))) ∧ Same H3 H') ⟨upd_same, Same.upd_new (Same.refl H3) hD2⟩ ?_ ?_
    · rintro k H' hk ⟨g1, g2⟩
      have hk' : k < xr.length := by omega
      obtain ⟨x, hx⟩ : ∃ x, xr[k]? = some x := ⟨_, List.getElem?_eq_getElem hk'⟩
      obtain ⟨e, he, re⟩ := hR2.atE hx
      obtain ⟨ax, bx, rfl, sx, _⟩ := (re.mono (Ext.of_same (s3.trans g2)) _ _).ent
      walk_at "go"
      refine ⟨rfl, ?_⟩
      walk_at "go"
      refine u_ixT (Ext.of_same g2 _ _ hq3) (by rw [Int.zero_add]; exact atI_nat hx) ?_
      walk_at "go"
      refine u_ixT sx rfl ?_
      walk_at "go"
      refine rd_split (fun c => ?_) (fun c => ?_)
      · walk_at "go"
        refine ⟨_, g1, ?_, ?_, Same.upd_new g2 hD2⟩
        · unfold nV
          rw [List.length_map]
          exact ls (Nat.le_trans (idx_len _ _ _ _) (by omega))
        · rw [upd_same, idx_yes (by rw [Nat.zero_add]; exact he) (decide_eq_true c), nV_snoc]
          rfl
      · exact ⟨by rw [idx_no (by rw [Nat.zero_add]; exact he) (decide_eq_false c)]; exact g1, g2⟩
    rintro H4 ⟨g1b, s4⟩
    rw [show ((xr.length : Nat) : Int).toNat = (fl (b :: r)).length by omega] at g1b
    walk_at "go"
    refine ⟨D2, (idx (fun e => decide (e.n = b.H)) (fl (b :: r)) 0 (fl (b :: r)).length).map fun (n : Nat) => (n : Int), rfl, SqL.of (by rw [← nV_ints]; exact g1b), ?_, fun m hm hle => ?_⟩
    · rw [List.length_map]
      exact List.length_pos_iff.mpr (idx_ne1 hG')
    obtain ⟨t, ht, rfl⟩ := List.mem_map.mp hm
    have T : Top b r t := idx_top hG' ht (fun y hy => by
      have := hle _ (List.mem_map_of_mem hy)
      omega)
    have tb := T.ltb hG'
    have tl := T.lt
    have hq4 := Ext.of_same (K := K) s4 _ _ hq3
    have s14 := ((s1.trans s2).trans s3).trans s4
    walk_at "go"
    refine u_slS hq4 fun q5 H5 s5 hq5 => ?_
    rw [cut_from] at hq5
    have hR5 : Rps K H5 (xr.drop t) (((fl (b :: r)).drop t).map Ent.py) := (Rps.dropE _ hR2).mono (Ext.of_same ((s3.trans s4).trans s5)) _ _
    have lxt := hR5.lenE
    walk_at "go"
    intro D3 hD3
    refine lc_tup (xs := xr.drop t) (fun k H' => H' D3 = some (.lst (((((fl (b :: r)).drop t).take k).map Ent.h).map V.int)) ∧ Same H5 H') ⟨upd_same, Same.upd_new (Same.refl H5) hD3⟩ ?_ ?_ ?_
    · rintro k H' hk ⟨g1, g2⟩
      exact Ext.of_same g2 _ _ hq5
    · rintro k x H' hx ⟨g1, g2⟩
      obtain ⟨e, he, re⟩ := hR5.atE hx
      obtain ⟨ax, bx, rfl, sx, _⟩ := (re.mono (Ext.of_same g2) _ _).ent
      walk_at "go"
      refine ⟨rfl, ?_⟩
      walk_at "go"
      refine u_ixT sx rfl ?_
      refine ⟨_, g1, ?_, ?_, Same.upd_new g2 hD3⟩
      · rw [List.length_map, List.length_map, List.length_take, List.length_drop]
        exact ls (by omega)
      · rw [upd_same, List.take_add_one, he, List.map_append, List.map_append]
        rfl
    rintro H6 ⟨g1c, s6⟩
    rw [lxt, List.take_length] at g1c
    walk_at "go"
    refine ⟨D3, ((fl (b :: r)).drop t).map Ent.h, rfl, SqL.of g1c, by rw [List.length_map, List.length_drop]; omega, fun m hm2 hle2 => ?_⟩
    have em := T.low hG' hm2 hle2
    subst em
    have hq6 := Ext.of_same (K := K) (s5.trans s6) _ _ hq4
    have hR6 := hR5.mono (Ext.of_same (K := K) s6) _ _
    walk_at "go"
    intro D4 hD4
    refine lc_range (lo := (t : Int)) (n := (((xr.length : Nat) : Int) - (t : Int)).toNat) (fun k H' => H' D4 = some (.lst (nV (idx (fun e => decide (e.h = b.V)) (fl (b :: r)) t k))) ∧ Same H6 H') ⟨upd_same, Same.upd_new (Same.refl H6) hD4⟩ ?_ ?_
    · rintro k H' hk ⟨g1, g2⟩
      have hk' : t + k < xr.length := by omega
      obtain ⟨x, hx⟩ : ∃ x, xr[t + k]? = some x := ⟨_, List.getElem?_eq_getElem hk'⟩
      obtain ⟨e, he, re⟩ := hR2.atE hx
      obtain ⟨ax, bx, rfl, sx, _⟩ := (re.mono (Ext.of_same ((((s3.trans s4).trans s5).trans s6).trans g2)) _ _).ent
      walk_at "go"
      refine ⟨rfl, ?_⟩
      walk_at "go"
      refine u_ixT (Ext.of_same g2 _ _ hq6) (by rw [← Int.natCast_add]; exact atI_nat hx) ?_
      walk_at "go"
      refine u_ixT sx rfl ?_
      walk_at "go"
      refine rd_split (fun c => ?_) (fun c => ?_)
      · walk_at "go"
        refine ⟨_, g1, ?_, ?_, Same.upd_new g2 hD4⟩
        · unfold nV
          rw [List.length_map]
          exact ls (Nat.le_trans (idx_len _ _ _ _) (by omega))
        · rw [upd_same, idx_yes he (decide_eq_true c), nV_snoc]
      · exact ⟨by rw [idx_no he (decide_eq_false c)]; exact g1, g2⟩
    rintro H7 ⟨g1d, s7⟩
    rw [show (((xr.length : Nat) : Int) - (t : Int)).toNat = (fl (b :: r)).length - t by omega] at g1d
    walk_at "go"
    refine ⟨D4, (idx (fun e => decide (e.h = b.V)) (fl (b :: r)) t ((fl (b :: r)).length - t)).map fun (n : Nat) => (n : Int), rfl, SqL.of (by rw [← nV_ints]; exact g1d), ?_, fun m hm3 hle3 => ?_⟩
    · rw [List.length_map]
      exact List.length_pos_iff.mpr (idx_ne2 T hG')
    obtain ⟨z, hz, rfl⟩ := List.mem_map.mp hm3
    have ez := idx_stop T hG' hz (fun y hy => by
      have := hle3 _ (List.mem_map_of_mem hy)
      omega)
    have ez1 : ((z : Nat) : Int) + 1 = ((b.es.length : Nat) : Int) := by omega
    have hq7 := Ext.of_same (K := K) s7 _ _ hq6
    walk_at "go"
    refine ⟨lk rfl, fun p8 hp8 => ?_⟩
    have hq8 := Ext.new (K := K) (o := .tup []) hp8 _ _ hq7
    have sq8 : SqT K (upd H7 p8 (.tup [])) p8 [] := SqT.of upd_same
    have s27 := ((((s2.trans s3).trans s4).trans s5).trans s6).trans s7
    have s18 := Same.new (o := .tup []) (s1.trans s27) hp8
    have sR8 := hR2.mono (Ext.of_same (K := K) (Same.new (o := .tup []) ((((s3.trans s4).trans s5).trans s6).trans s7) hp8)) _ _
    have f18 := Same.new (o := .tup []) s27 hp8 _ _ f1
    have f28 := f2.mono (Ext.of_same (K := K) (Same.new (o := .tup []) s27 hp8)) _ _
    have hbb : (b.es.flatMap Ent.s).length ≤ 100000 := by
      refine Nat.le_trans ?_ hb
      rw [← List.take_append_drop (fl (bs.take i)).length (fl bs), hfl, fl_cons, List.flatMap_append, List.flatMap_append, List.length_append, List.length_append]
      omega
    generalize upd H7 p8 (.tup []) = H8 at *
    walk_at "go"
    rw [ez1]
    refine u_slS hq8 fun q9 H9 s9 hq9 => ?_
    rw [cut_to] at hq9
    have hR9 : Rps K H9 (xr.take b.es.length) (b.es.map Ent.py) := by
      have z1 := (Rps.takeE b.es.length sR8).mono (Ext.of_same (K := K) s9) _ _
      rwa [fl_cons, List.take_left] at z1
    have lx9 := hR9.lenE
    walk_at "go"
    refine forT (xs := xr.take b.es.length) (fun j σ H' => ∃ (q : Addr) (o6 : Option V), σ = [some (.ref a), some (.ref p), some (.int ((fl (bs.take i)).length : Nat)), some (.int (0 + (i : Int))), some (.ref q1), some (.int b.H), o6, some (.int (t : Nat)), none, some (.int b.V), some (.int (z : Nat)), some (.ref q)] ∧ Same H9 H' ∧ SqT K H' q (((b.es.take j).flatMap Ent.s).map V.int))
      ⟨p8, _, rfl, Same.refl _, Ext.of_same s9 _ _ sq8⟩ ?_ ?_ ?_
    · rintro j σ H' hj ⟨q, o6, rfl, k1, k2⟩
      exact Ext.of_same k1 _ _ hq9
    · rintro j x σ H' hx ⟨q, o6, rfl, k1, k2⟩
      obtain ⟨e, he, re⟩ := hR9.atE hx
      obtain ⟨ax, bx, rfl, sx, sb⟩ := (re.mono (Ext.of_same k1) _ _).ent
      have etk : (b.es.take (j + 1)).flatMap Ent.s = (b.es.take j).flatMap Ent.s ++ e.s := by
        rw [List.take_add_one, he, List.flatMap_append]
        simp
      have hbk : ((b.es.take j).flatMap Ent.s).length + e.s.length ≤ 100000 := by
        rw [← List.length_append, ← etk]
        refine Nat.le_trans ?_ hbb
        have z : b.es.flatMap Ent.s = (b.es.take (j + 1)).flatMap Ent.s ++ (b.es.drop (j + 1)).flatMap Ent.s := by rw [← List.flatMap_append, List.take_append_drop]
        rw [z, List.length_append]
        omega
      walk_at "go"
      refine u_ixT sx rfl ?_
      refine u_catS k2 sb ?_ fun q' H'' s'' hq'' => ?_
      · rw [List.length_map, List.length_map]
        exact ll (by omega)
      walk_at "go"
      exact ⟨q', _, rfl, k1.trans s'', by rw [etk, iV_append]; exact hq''⟩
    · rintro σ H' ⟨q2, o6, rfl, k1, k2⟩
      rw [lx9, List.take_length] at k2
      have fp := (s9.trans k1) _ _ f18
      have f2p := f28.mono (Ext.of_same (K := K) (s9.trans k1)) _ _
      have sHp := s18.trans (s9.trans k1)
      have lws : ws.length ≤ 1000 := by
        rw [f2.lenE, List.length_map, List.length_take]
        omega
      walk_at "go"
      refine ⟨lk rfl, fun pa hpa => ?_⟩
      have npa : p ≠ pa := ne_of_none fp hpa
      have fpa : (upd H' pa (.tup [.int b.H, .int b.V, .ref q2])) p = some (.lst ws) := by rw [upd_ne npa]; exact fp
      have xa : Ext K H' (upd (upd H' pa (.tup [.int b.H, .int b.V, .ref q2])) p (.lst (ws ++ [.ref pa]))) := (Ext.new hpa).trans (Ext.set fpa trivial)
      walk_at "go"
      refine u_app fpa (ls (by omega)) ?_
      walk_at "go"
      have eat : ((fl (bs.take i)).length : Int) + ((z : Nat) + 1) = ((fl (bs.take (i + 1))).length : Nat) := by
        rw [ez1, List.take_add_one, eb, fl_append, Option.toList_some, fl_one, List.length_append]
        simp
      rw [eat]
      refine ⟨ws ++ [.ref pa], _, _, _, _, _, _, _, _, rfl, Same.upd_new (Same.new sHp hpa) hp, upd_same, ?_⟩
      rw [List.take_add_one, eb]
      simp only [Option.toList_some, List.map_append, List.map_cons, List.map_nil]
      refine (f2p.mono xa _ _).append (.one (.tup (SqT.of (by rw [upd_ne npa.symm]; exact upd_same)) ?_))
      exact .cons (.int _) (.cons (.int _) (.cons (.tup (xa _ _ k2) (Rps.ints _)) .nil))
  · rintro σ H' ⟨ws, o3, o4, o5, o6, o7, o9, o10, o11, rfl, s1, f1, f2⟩
    walk_at "go"
    refine q _ p ws s1 hp f1 ?_
    rw [List.take_of_length_le (by omega)] at f2
    exact f2
end
end Mine

/-! ### G7 -/
namespace Mine
open PySem PySem.Spec L2
local macro_rules | `(tactic| walk_at "st") => `(tactic| first
  | ((with_reducible apply rd_var); exact rfl)
  | (with_reducible apply rd_c)
  | (with_reducible apply rd_seq)
  | (with_reducible apply rd_asg)
  | (with_reducible apply rd_gname)
  | (with_reducible apply rd_op)
  | (with_reducible apply rd_cb)
  | (with_reducible apply rd_cons)
  | (with_reducible apply rd_nil)
  | (with_reducible apply rd_if)
  | (with_reducible apply rd_test)
  | (with_reducible apply rd_bl)
  | (with_reducible apply rd_retE)
  | (with_reducible apply rd_ret)
  | (with_reducible apply rd_call)
  | (with_reducible apply rd_tup)
  | (with_reducible apply rd_lst)
  | (with_reducible apply rd_drop)
  | (with_reducible apply rd_next)
  | (with_reducible apply rd_ife)
  | (with_reducible apply rd_gsub)
  | (with_reducible apply rd_par)
  | (with_reducible apply rd_par_end)
  | (with_reducible apply rd_un)
  | (with_reducible apply rd_and)
  | (with_reducible apply rd_or)
  | (with_reducible apply rd_not)
  | (with_reducible apply rd_andV)
  | (with_reducible apply rd_orV)
  | (with_reducible apply rd_notV)
  | (with_reducible apply rd_chain)
  | (with_reducible apply rd_tB)
  | (with_reducible apply rd_brk)
  | (with_reducible apply rd_ct)
  | (with_reducible apply u_add)
  | (with_reducible apply u_sub)
  | (with_reducible apply u_lt)
  | (with_reducible apply u_le)
  | (with_reducible apply u_gt)
  | (with_reducible apply u_ge)
  | (with_reducible apply u_eqI)
  | (with_reducible apply u_eqS)
  | (with_reducible apply u_neI)
  | (with_reducible apply u_int)
  | (with_reducible apply u_intB)
  | (with_reducible apply u_max)
  | (with_reducible apply u_min)
  | (with_reducible apply u_neg)
  | ((with_reducible apply u_mod); focus first | assumption | decide | omega)
  | ((with_reducible apply u_div); focus first | decide | omega | (constructor <;> first | assumption | omega))
  | ((with_reducible apply u_mul); focus first | exact Or.inl (by omega) | exact Or.inr (by omega) | exact Or.inl (by decide) | exact Or.inr (by decide))
  | ((with_reducible apply u_ixL); (focus (first | assumption | exact SqL.of (by assumption) | exact SqL.of upd_same)); exact rfl)
  | ((with_reducible apply u_lenL); focus (first | assumption | exact SqL.of (by assumption) | exact SqL.of upd_same))
  | ((with_reducible apply u_lenT); focus (first | assumption | exact SqT.of (by assumption) | exact SqT.of upd_same))
  | ((with_reducible apply u_setL); (focus (first | assumption | exact upd_same)); exact rfl)
  | (with_reducible apply rd_chain3)
  | (with_reducible apply rd_tru)
  | (with_reducible apply rd_truB)
  | ((with_reducible apply rd_truL); focus (first | assumption | exact SqL.of (by assumption) | exact SqL.of upd_same))
  | (with_reducible apply rd_bm)
  | (with_reducible apply rd_bm0)
  | ((with_reducible apply rd_tyL); focus (first | exact SqL.of (by assumption) | exact SqL.of upd_same))
  | (with_reducible apply u_min3)
  | (with_reducible apply rd_rev)
  | (with_reducible apply rd_iList)
  | (with_reducible apply rd_iTup)
  | (with_reducible apply rd_for)
  | (with_reducible apply rd_rng1)
  | (with_reducible apply rd_rng2)
  | ((with_reducible apply rd_rng1e); (focus omega); (focus omega))
  | ((with_reducible apply rd_rng2e); (focus omega))
  | (with_reducible apply rd_gcons)
  | (with_reducible apply rd_gnil)
  | (with_reducible apply rd_retN)
  | (with_reducible apply g_eqI)
  | (with_reducible apply g_eqS)
  | (with_reducible apply g_neI)
  | (with_reducible apply g_neS)
  | (with_reducible apply g_neB)
  | (with_reducible apply rd_xf)
  | (with_reducible apply rd_raiseE)
  | (with_reducible apply rd_callS)
  | (with_reducible apply u_inD)
  | (with_reducible apply u_notInD)
  | (with_reducible apply u_inS)
  | (with_reducible apply u_notInS)
  | (with_reducible apply rd_iSeq)
  | ((with_reducible apply rd_seqL); (focus first | assumption | exact SqL.of (by assumption) | exact SqL.of upd_same))
  | ((with_reducible apply rd_seqT); (focus first | assumption | exact SqT.of (by assumption) | exact SqT.of upd_same))
  | (with_reducible apply rd_istr)
  | (with_reducible apply rd_istrE)
  | ((with_reducible apply u_isi); (focus (first | exact Or.inl rfl | exact Or.inr (Or.inl rfl) | exact Or.inr (Or.inr (Or.inl rfl)) | exact Or.inr (Or.inr (Or.inr rfl)))); (focus first | assumption | exact Rp.int _ | exact Rp.str _))
  | ((with_reducible apply rd_itL); (focus first | assumption | exact SqL.of (by assumption) | exact SqL.of upd_same))
  | ((with_reducible apply rd_itT); (focus first | assumption | exact SqT.of (by assumption) | exact SqT.of upd_same))
  | (with_reducible apply rd_lc)
  | (with_reducible apply rd_yes)
  | ((with_reducible apply u_pow); (focus (exact ⟨by decide, by decide, by decide⟩)))
  | (with_reducible apply u_mul; focus exact Or.inr cm)
  | (with_reducible apply rd_par3)
  | (with_reducible apply rd_par3_end)
  | ((with_reducible apply rd_aug); exact rfl)
  | (with_reducible apply rd_ipI)
  | (with_reducible apply rd_enA)
  | ((with_reducible apply u_enT); (focus first | assumption | exact SqT.of (by assumption) | exact SqT.of upd_same))
  | ((with_reducible apply u_enL); (focus first | assumption | exact SqL.of (by assumption) | exact SqL.of upd_same))
  | (with_reducible apply rd_zip)
  | (with_reducible apply rd_lc2)
  | ((with_reducible apply rd_gtup); (focus first | assumption | exact SqT.of (by assumption) | exact SqT.of upd_same); (focus rfl))
  | (with_reducible apply rd_dnew)
  | (with_reducible apply rd_din)
  | (with_reducible apply rd_dget)
  | (with_reducible apply rd_dput)
  | (with_reducible apply rd_disp1)
  | (with_reducible apply rd_sl)
  | (with_reducible apply rd_part)
  | (with_reducible apply rd_partI)
  | (with_reducible apply rd_nopart)
  | (with_reducible apply iteT)
  | (with_reducible apply iteF))
local macro_rules | `(tactic| walk_at "go") => `(tactic| repeat (walk_at "st"))
local macro_rules | `(tactic| walk_at "sp") => `(tactic| (first | refine rd_split (fun c => ?_) (fun c => ?_) | refine rd_splitN (fun c => ?_) (fun c => ?_) | refine rd_splitB (fun c => ?_) (fun c => ?_)))
local macro_rules | `(tactic| walk_at "nx") => `(tactic| repeat (first | (with_reducible apply iteF) | (with_reducible apply iteT) | (with_reducible apply rd_next)))

section
variable {P : Program} {w : World} {K : PySem.W.Frag} {mg : Str → Option Value} {base : Heap}
structure Exm2 (K : PySem.W.Frag) (cB cR : Addr) : Prop where
  yes : PySem.W.exmOne K (.ref cB) (.ref cB) = some true
abbrev s_law_told : Stmt := top 18
theorem sc_law_told : FnScope ["run", "e"] ["run"] (defScope s_law_told) := ⟨rfl, rfl, rfl, by decide +kernel, rfl, by decide +kernel, by decide +kernel⟩
def spTd (K : PySem.W.Frag) : Sp := fun vs H Q _ => ∃ (a : Addr) (xs : List V) (ds : List PyData), vs = [.ref a] ∧ SqT K H a xs ∧ Rps K H xs ds ∧
  ((∃ i : Nat, firstBad ds i ∧ ∀ (H' : Hp) (q : Addr), Same H H' → SqT K H' q [.str "row", .int (i : Nat)] → Q (.ref q) H') ∨ ∃ es, ds = es.map Ent.py ∧ (∀ e ∈ es, 0 ≤ e.n ∧ 0 ≤ e.h) ∧ es.length ≤ 1000 ∧ (es.flatMap Ent.s).length ≤ 100000 ∧
    ∀ (H' : Hp) (q : Addr) (ys : List V) (bs : List Bk), Same H H' → SqT K H' q ys → Rps K H' ys ((bs.map seg).map Ent.py) → Good bs → fl bs = es → Q (.ref q) H')
theorem has_law_told {fI cB cR : Addr} (O : OwnF K mg "_law_told" s_law_told) (M_Refused : ErrC K mg fI "Refused" cR) (M_BadRow : ErrC K mg fI "BadRow" cB) (X : Exm2 K cB cR) (h_hills : HasF P w K mg base (L2.CX P w) 5 "hills" ["run"] (spHl K cB)) : HasF P w K mg base CX0 6 "_law_told" ["run"] (spTd K) := by
  refine has0 O sc_law_told (fun _ _ _ _ _ _ us hl => match us, hl with | [_], _ => rfl) (fun vs H Q E h => ?_) (fun f cdv A outer s_ H vs Q E hr h => ?_)
  · obtain ⟨a, xs, ds, rfl, _⟩ := h
    rfl
  obtain ⟨a, xs, ds, rfl, hs, hR, hc⟩ := h
  refine ⟨_, (pss_one (ps_try_mix rfl rfl takes0 (fun W pn xe tk _ => (pss_one (ps_ret (pe_callHS h_hills (hr.mono (by first | decide | omega)) (by rfl) (fun σ => passAt tk σ) (pa_cons (pv 0) pa_nil))))) K rfl (Hds.named (i := 1) ⟨rfl, by decide, Or.inl M_BadRow.g⟩ sc_law_told.nd rfl rfl (fun a oe cls d pn hz hf => (pss_one (ps_ret (pe_tup (pa_cons pe_str (pa_cons (pe_xf M_BadRow.f M_BadRow.n hz hf (pv 1)) pa_nil)))))) (Hds.named (i := 1) ⟨rfl, by decide, Or.inl M_Refused.g⟩ sc_law_told.nd rfl rfl (fun a oe cls d pn hz hf => (pss_one (ps_ret (pe_tup (pa_cons pe_str (pa_cons (pe_xf M_Refused.f M_Refused.n hz hf (pv 1)) pa_nil)))))) Hds.nil)))), ?_⟩
  refine st0 [some (.ref a), none] rfl ?_
  walk_at "go"
  refine ⟨a, xs, ds, rfl, hs, hR, ?_⟩
  rcases hc with ⟨i, hi, q⟩ | ⟨es, e1, e2, e3, e4, q⟩
  · refine .inl ⟨i, hi, fun H1 d1 s1 f1 => ?_⟩
    refine ⟨true, X.yes, fun _ a ha => ?_, fun z => nomatch z⟩
    walk_at "go"
    refine u_xf (by rfl) f1 ?_
    walk_at "go"
    exact ⟨lk rfl, fun p hp => q _ p (Same.new s1 hp) (SqT.of upd_same)⟩
  · refine .inr ⟨es, e1, e2, e3, e4, fun H' q2 ys bs s1 h1 h2 h3 h4 => ?_⟩
    walk_at "go"
    exact q H' q2 ys bs s1 h1 h2 h3 h4
theorem ints_lay : ∀ ns : List Int, dats (ns.map PyData.int)
  | [] => trivial
  | n :: r => ⟨by simp only [dat], ints_lay r⟩
theorem ints_deep : ∀ ns : List Int, PyData.depthAll (ns.map PyData.int) = 0
  | [] => rfl
  | n :: r => by simp only [List.map_cons, PyData.depthAll, ints_deep r, PyData.depth]; rfl
theorem rd_truT {K : PySem.W.Frag} {H : Hp} {a : Addr} {xs : List V} {R : Bool → Prop} (s : SqT K H a xs) (h : R (!xs.isEmpty)) : ∃ k, TruV K (.ref a) H k ∧ R k := ⟨_, .inr (.inl ⟨xs, s, rfl⟩), h⟩
theorem Ent.py_dat {e : Ent} (h : e.s.length ≤ 1000) : dat e.py := by
  unfold Ent.py
  simp only [dat, dats, List.length_map]
  exact ⟨by simp, trivial, trivial, ⟨h, ints_lay _⟩, trivial⟩
theorem ents_dat : ∀ {es : List Ent}, (∀ e ∈ es, e.s.length ≤ 1000) → dats (es.map Ent.py)
  | [], _ => trivial
  | e :: r, h => ⟨Ent.py_dat (h e List.mem_cons_self), ents_dat fun x hx => h x (List.mem_cons_of_mem _ hx)⟩
theorem Ent.py_deep (e : Ent) : e.py.depth ≤ 2 := by
  unfold Ent.py
  simp [PyData.depth, PyData.depthAll, ints_deep]
theorem ents_deep : ∀ es : List Ent, PyData.depthAll (es.map Ent.py) ≤ 2
  | [] => by simp [PyData.depthAll]
  | e :: r => by
    simp only [List.map_cons, PyData.depthAll]
    have := e.py_deep
    have := ents_deep r
    omega
theorem sumS {es : List Ent} {m : Nat} (h : (es.flatMap Ent.s).length ≤ m) : ∀ e ∈ es, e.s.length ≤ m := fun e he => by
  obtain ⟨a, b, rfl⟩ := List.append_of_mem he
  rw [List.flatMap_append, List.flatMap_cons, List.length_append, List.length_append] at h
  omega
theorem seg_flat : ∀ bs : List Bk, (bs.map seg).flatMap Ent.s = (fl bs).flatMap Ent.s
  | [] => rfl
  | b :: r => by
    rw [List.map_cons, List.flatMap_cons, seg_flat r, fl_cons, List.flatMap_append]
    rfl
theorem flat_take {es : List Ent} {j : Nat} {e : Ent} (he : es[j]? = some e) : (es.take (j + 1)).flatMap Ent.s = (es.take j).flatMap Ent.s ++ e.s ∧ ((es.take j).flatMap Ent.s).length + e.s.length ≤ (es.flatMap Ent.s).length := by
  have etk : (es.take (j + 1)).flatMap Ent.s = (es.take j).flatMap Ent.s ++ e.s := by
    rw [List.take_add_one, he, List.flatMap_append]
    simp
  refine ⟨etk, ?_⟩
  rw [← List.length_append, ← etk]
  have z : es.flatMap Ent.s = (es.take (j + 1)).flatMap Ent.s ++ (es.drop (j + 1)).flatMap Ent.s := by rw [← List.flatMap_append, List.take_append_drop]
  rw [z, List.length_append]
  omega
theorem Good.steps {bs : List Bk} (h : Good bs) {k : Nat} {b c : Bk} (hb : bs[k]? = some b) (hc : bs[k + 1]? = some c) : c.H < b.H ∧ b.V < c.V := by
  have h1 := lt_of_get hb
  have h2 := lt_of_get hc
  have rr := List.pairwise_iff_getElem.mp h.pw k (k + 1) h1 h2 (by omega)
  rw [List.getElem?_eq_getElem h1, Option.some.injEq] at hb
  rw [List.getElem?_eq_getElem h2, Option.some.injEq] at hc
  rw [hb, hc] at rr
  exact ⟨rr.1, rr.val (h.ok c (hc ▸ List.getElem_mem h2))⟩
def spSh (K : PySem.W.Frag) : Sp := fun vs H Q _ => ∃ (a c : Addr) (xs ys : List V) (bs : List Bk), vs = [.ref a, .ref c] ∧ SqT K H a xs ∧ Rps K H xs ((fl bs).map Ent.py) ∧ SqT K H c ys ∧ Rps K H ys ((bs.map seg).map Ent.py) ∧ Good bs ∧ (fl bs).length ≤ 1000 ∧ ((fl bs).flatMap Ent.s).length ≤ 1000 ∧
  ∀ H', Same H H' → Q (.bl true) H'
abbrev s_law_shape_right : Stmt := top 19
theorem sc_law_shape_right : FnScope ["run", "told", "steps", "segment", "due", "step", "k"] ["run", "told"] (defScope s_law_shape_right) := ⟨rfl, rfl, rfl, by decide +kernel, rfl, by decide +kernel, by decide +kernel⟩
theorem has_law_shape_right (O : OwnF K mg "_law_shape_right" s_law_shape_right) (B : Bl mg) : HasF P w K mg base CX0 1 "_law_shape_right" ["run", "told"] (spSh K) := by
  refine has0 O sc_law_shape_right (fun _ _ _ _ _ _ us hl => match us, hl with | [_, _], _ => rfl) (fun vs H Q E h => ?_) (fun f cdv A outer s_ H vs Q E hr h => ?_)
  · obtain ⟨a, c, xs, ys, bs, rfl, _⟩ := h
    rfl
  obtain ⟨a, c, xs, ys, bs, rfl, hs, hR, ht, hT, hG, hl, hb, q⟩ := h
  have lx := hR.lenE
  have ly := hT.lenE
  rw [List.length_map] at ly
  have lcard := hG.card
  have hb2 : ((bs.map seg).flatMap Ent.s).length ≤ 1000 := by rw [seg_flat]; exact hb
  refine ⟨_, (pss_cons (ps_set (i := 2) sc_law_shape_right.nd rfl (by first | exact Or.inl rfl | exact Or.inr rfl) (pe_tup pa_nil)) (pss_cons (ps_for PassesOwn.never rfl (pi_tupK K (pv 1)) (pg_name (i := 3) sc_law_shape_right.nd rfl (by first | exact Or.inl rfl | exact Or.inr rfl)) (pss_one (ps_set (i := 2) sc_law_shape_right.nd rfl (by first | exact Or.inl rfl | exact Or.inr rfl) (pe_op (kAdd K) (pv 2) (pe_ix (kIx K) (pv 3) pe_int (fun _ _ => rfl)))))) (pss_cons (ps_set (i := 4) sc_law_shape_right.nd rfl (by first | exact Or.inl rfl | exact Or.inr rfl) (pe_tup pa_nil)) (pss_cons (ps_for PassesOwn.never rfl (pi_tupK K (pv 0)) (pg_name (i := 5) sc_law_shape_right.nd rfl (by first | exact Or.inl rfl | exact Or.inr rfl)) (pss_one (ps_set (i := 4) sc_law_shape_right.nd rfl (by first | exact Or.inl rfl | exact Or.inr rfl) (pe_op (kAdd K) (pv 4) (pe_ix (kIx K) (pv 5) pe_int (fun _ _ => rfl)))))) (pss_cons (ps_if (PW.pt (pw_or (pt_cmpR (kNeG K (hU hr)) (pv 2) (pv 4) (nomark _)) (pw_or1 (PW.pt (pw_and (pt_truthK K (pv 0) (by intro _; rfl)) (pw_and1 (pt_cmpR (kNeG K (hU hr)) (pe_ix (kIx K) (pe_ix (kIx K) (pv 1) (pe_un un_neg pe_int) (fun _ _ => rfl)) pe_int (fun _ _ => rfl)) (pe_ix (kIx K) (pe_ix (kIx K) (pv 0) (pe_un un_neg pe_int) (fun _ _ => rfl)) pe_int (fun _ _ => rfl)) (nomark _)))))))) (pss_one (ps_ret pe_bl)) pss_nil) (pss_cons (ps_for PassesOwn.never rfl (pi_range1 (by rfl) B.range (pa_cons (pe_op subU (pe_callB (kLen K) (by rfl) B.len (by decide +kernel) (pa_cons (pv 1) pa_nil)) pe_int) pa_nil)) (pg_name (i := 6) sc_law_shape_right.nd rfl (by first | exact Or.inl rfl | exact Or.inr rfl)) (pss_one (ps_if (PW.pt (pw_or (pt_cmpR leU (pe_ix (kIx K) (pe_ix (kIx K) (pv 1) (pv 6) (fun _ _ => rfl)) pe_int (fun _ _ => rfl)) (pe_ix (kIx K) (pe_ix (kIx K) (pv 1) (pe_op (kAdd K) (pv 6) pe_int) (fun _ _ => rfl)) pe_int (fun _ _ => rfl)) (nomark _)) (pw_or1 (pt_cmpR geU (pe_ix (kIx K) (pe_ix (kIx K) (pv 1) (pv 6) (fun _ _ => rfl)) pe_int (fun _ _ => rfl)) (pe_ix (kIx K) (pe_ix (kIx K) (pv 1) (pe_op (kAdd K) (pv 6) pe_int) (fun _ _ => rfl)) pe_int (fun _ _ => rfl)) (nomark _))))) (pss_one (ps_ret pe_bl)) pss_nil))) (pss_one (ps_ret pe_bl)))))))), ?_⟩
  refine st0 [some (.ref a), some (.ref c), none, none, none, none, none] rfl ?_
  walk_at "go"
  refine ⟨lk rfl, fun p hp => ?_⟩
  have s0 : Same H (upd H p (.tup [])) := same_new hp _
  have t0 : SqT K (upd H p (.tup [])) p [] := SqT.of upd_same
  generalize upd H p (.tup []) = H0 at *
  have ht0 := Ext.of_same (K := K) s0 _ _ ht
  walk_at "go"
  refine forT (xs := ys) (fun j σ H' => ∃ (q : Addr) (o3 : Option V), σ = [some (.ref a), some (.ref c), some (.ref q), o3, none, none, none] ∧ Same H H' ∧ SqT K H' q ((((bs.map seg).take j).flatMap Ent.s).map V.int)) ⟨p, _, rfl, s0, t0⟩ ?_ ?_ ?_
  · rintro j σ H' hj ⟨q, o3, rfl, k1, k2⟩
    exact Ext.of_same k1 _ _ ht
  · rintro j x σ H' hx ⟨q, o3, rfl, k1, k2⟩
    obtain ⟨e, he, re⟩ := hT.atE hx
    obtain ⟨ax, bx, rfl, sx, sb⟩ := (re.mono (Ext.of_same k1) _ _).ent
    obtain ⟨et, eb⟩ := flat_take he
    walk_at "go"
    refine u_ixT sx rfl ?_
    refine u_catS k2 sb ?_ fun q' H'' s'' hq'' => ?_
    · rw [List.length_map, List.length_map]
      exact ll (by omega)
    walk_at "go"
    exact ⟨q', _, rfl, k1.trans s'', by rw [et, iV_append]; exact hq''⟩
  rintro σ H1 ⟨q1, o3, rfl, s1, k2⟩
  rw [ly, show bs.length = (bs.map seg).length by rw [List.length_map], List.take_length, seg_flat] at k2
  walk_at "go"
  refine ⟨lk rfl, fun p2 hp2 => ?_⟩
  have s2 := Same.new (o := .tup []) s1 hp2
  have t2 : SqT K (upd H1 p2 (.tup [])) p2 [] := SqT.of upd_same
  have k3 := Ext.new (K := K) (o := .tup []) hp2 _ _ k2
  generalize upd H1 p2 (.tup []) = H2 at *
  have hs2 := Ext.of_same (K := K) s2 _ _ hs
  walk_at "go"
  refine forT (xs := xs) (fun j σ H' => ∃ (q : Addr) (o5 : Option V), σ = [some (.ref a), some (.ref c), some (.ref q1), o3, some (.ref q), o5, none] ∧ Same H2 H' ∧ SqT K H' q ((((fl bs).take j).flatMap Ent.s).map V.int)) ⟨p2, _, rfl, Same.refl _, t2⟩ ?_ ?_ ?_
  · rintro j σ H' hj ⟨q, o5, rfl, k1, k2⟩
    exact Ext.of_same (s2.trans k1) _ _ hs
  · rintro j x σ H' hx ⟨q, o5, rfl, k1, k2⟩
    obtain ⟨e, he, re⟩ := hR.atE hx
    obtain ⟨ax, bx, rfl, sx, sb⟩ := (re.mono (Ext.of_same (s2.trans k1)) _ _).ent
    obtain ⟨et, eb⟩ := flat_take he
    walk_at "go"
    refine u_ixT sx rfl ?_
    refine u_catS k2 sb ?_ fun q' H'' s'' hq'' => ?_
    · rw [List.length_map, List.length_map]
      exact ll (by omega)
    walk_at "go"
    exact ⟨q', _, rfl, k1.trans s'', by rw [et, iV_append]; exact hq''⟩
  rintro σ H3 ⟨q3, o5, rfl, s3, k4⟩
  rw [lx, List.take_length] at k4
  have k5 := Ext.of_same (K := K) s3 _ _ k3
  have sH3 := s2.trans s3
  walk_at "go"
  have hD : dat (.tuple (((fl bs).flatMap Ent.s).map PyData.int)) := by
    simp only [dat, List.length_map]
    exact ⟨hb, ints_lay _⟩
  refine g_neD (d := .tuple (((fl bs).flatMap Ent.s).map PyData.int)) (e := .tuple (((fl bs).flatMap Ent.s).map PyData.int)) (Rp.dp _ _ (.tup k5 (Rps.ints _))) (Rp.dp _ _ (.tup k4 (Rps.ints _))) (dat_lay _ hD) (dat_lay _ hD) (by simp [PyData.depth, ints_deep]) ?_
  rw [eqv_same _ hD]
  refine ⟨false, rfl, ?_⟩
  refine iteF ?_
  have hs3 := Ext.of_same (K := K) sH3 _ _ hs
  have ht3 := Ext.of_same (K := K) sH3 _ _ ht
  have hR3 := hR.mono (Ext.of_same (K := K) sH3) _ _
  have hT3 := hT.mono (Ext.of_same (K := K) sH3) _ _
  walk_at "go"
  refine rd_truT hs3 ?_
  rcases List.eq_nil_or_concat bs with rfl | ⟨bs', tb, rfl⟩
  · have : xs = [] := List.eq_nil_of_length_eq_zero lx
    subst this
    refine iteF ?_
    walk_at "go"
    refine forR (fun k σ H' => ∃ (o6 : Option V), σ = [some (.ref a), some (.ref c), some (.ref q1), o3, some (.ref q3), o5, o6] ∧ H' = H3) ⟨_, rfl, rfl⟩ ?_ ?_
    · rintro k σ H' hk ⟨o6, rfl, rfl⟩
      have hk2 : k + 1 < ([] : List Bk).length := by
        have hk3 : k < ((ys.length : Int) - 1).toNat := hk
        omega
      obtain ⟨b1, eb1⟩ : ∃ b1, ([] : List Bk)[k]? = some b1 := ⟨_, List.getElem?_eq_getElem (by omega)⟩
      obtain ⟨b2, eb2⟩ : ∃ b2, ([] : List Bk)[k + 1]? = some b2 := ⟨_, List.getElem?_eq_getElem hk2⟩
      obtain ⟨st1, st2⟩ := hG.steps eb1 eb2
      obtain ⟨x1, ex1, rx1⟩ := hT3.get (i := k) (d := (seg b1).py) (by rw [List.getElem?_map, List.getElem?_map, eb1] <;> rfl)
      obtain ⟨x2, ex2, rx2⟩ := hT3.get (i := k + 1) (d := (seg b2).py) (by rw [List.getElem?_map, List.getElem?_map, eb2] <;> rfl)
      obtain ⟨a1, c1, rfl, sx1, _⟩ := rx1.ent
      obtain ⟨a2, c2, rfl, sx2, _⟩ := rx2.ent
      have i1 : atI ys (0 + (k : Int)) = some (.ref a1) := by rw [Int.zero_add]; exact atI_nat ex1
      have i2 : atI ys (0 + (k : Int) + 1) = some (.ref a2) := by
        rw [Int.zero_add]
        exact atI_nat (j := k + 1) ex2
      walk_at "go"
      refine u_ixT ht3 i1 ?_
      walk_at "go"
      refine u_ixT sx1 rfl ?_
      walk_at "go"
      refine u_ixT ht3 i2 ?_
      walk_at "go"
      refine u_ixT sx2 rfl ?_
      walk_at "go"
      refine rd_split (fun z => absurd z (by show ¬ b1.H ≤ b2.H; omega)) (fun _ => ?_)
      walk_at "go"
      refine u_ixT ht3 i1 ?_
      walk_at "go"
      refine u_ixT sx1 rfl ?_
      walk_at "go"
      refine u_ixT ht3 i2 ?_
      walk_at "go"
      refine u_ixT sx2 rfl ?_
      walk_at "go"
      refine rd_split (fun z => absurd z (by show ¬ b2.V ≤ b1.V; omega)) (fun _ => ?_)
      walk_at "go"
      exact ⟨_, rfl, rfl⟩
    · rintro σ H' ⟨o6, rfl, rfl⟩
      walk_at "go"
      exact q _ sH3
  · rw [List.concat_eq_append] at *
    have tk := hG.init.2.1
    obtain ⟨m, e, em, eh⟩ := tk.last
    have efl : fl (bs' ++ [tb]) = (fl bs' ++ m) ++ [e] := by rw [fl_append, fl_one, em, List.append_assoc]
    rcases List.eq_nil_or_concat xs with rfl | ⟨xs', v, rfl⟩
    · exfalso
      rw [efl, List.length_append] at lx
      exact absurd lx (by simp)
    rcases List.eq_nil_or_concat ys with rfl | ⟨ys', u, rfl⟩
    · exfalso
      rw [List.length_append] at ly
      exact absurd ly (by simp)
    rw [List.concat_eq_append] at *
    have hne : (!(xs' ++ [v]).isEmpty) = true := by simp
    rw [hne]
    refine iteT ?_
    have lxs : xs'.length = (fl bs' ++ m).length := by
      rw [efl, List.length_append, List.length_append] at lx
      exact Nat.succ.inj lx
    have lys : ys'.length = bs'.length := by
      rw [List.length_append, List.length_append] at ly
      exact Nat.succ.inj ly
    obtain ⟨e2, he2, re2⟩ := hR3.atE (k := xs'.length) (x := v) (by simp)
    have : e2 = e := by
      rw [efl, lxs] at he2
      simpa using he2.symm
    subst this
    obtain ⟨sg, hsg, rsg⟩ := hT3.atE (k := ys'.length) (x := u) (by simp)
    have : sg = seg tb := by
      rw [List.map_append, lys] at hsg
      simpa using hsg.symm
    subst this
    obtain ⟨ae, ce, rfl, sae, _⟩ := re2.ent
    obtain ⟨ag, cg, rfl, sag, _⟩ := rsg.ent
    walk_at "go"
    refine u_ixT ht3 at_last ?_
    walk_at "go"
    refine u_ixT sag rfl ?_
    walk_at "go"
    refine u_ixT hs3 at_last ?_
    walk_at "go"
    refine u_ixT sae rfl ?_
    walk_at "go"
    have ev : decide ((seg tb).h = e2.h) = true := decide_eq_true eh.symm
    rw [ev, Bool.not_true]
    refine iteF ?_
    generalize ys' ++ [V.ref ag] = ys at *
    walk_at "go"
    refine forR (fun k σ H' => ∃ (o6 : Option V), σ = [some (.ref a), some (.ref c), some (.ref q1), o3, some (.ref q3), o5, o6] ∧ H' = H3) ⟨_, rfl, rfl⟩ ?_ ?_
    · rintro k σ H' hk ⟨o6, rfl, rfl⟩
      have hk2 : k + 1 < (bs' ++ [tb]).length := by
        have hk3 : k < ((ys.length : Int) - 1).toNat := hk
        omega
      obtain ⟨b1, eb1⟩ : ∃ b1, (bs' ++ [tb])[k]? = some b1 := ⟨_, List.getElem?_eq_getElem (by omega)⟩
      obtain ⟨b2, eb2⟩ : ∃ b2, (bs' ++ [tb])[k + 1]? = some b2 := ⟨_, List.getElem?_eq_getElem hk2⟩
      obtain ⟨st1, st2⟩ := hG.steps eb1 eb2
      obtain ⟨x1, ex1, rx1⟩ := hT3.get (i := k) (d := (seg b1).py) (by rw [List.getElem?_map, List.getElem?_map, eb1] <;> rfl)
      obtain ⟨x2, ex2, rx2⟩ := hT3.get (i := k + 1) (d := (seg b2).py) (by rw [List.getElem?_map, List.getElem?_map, eb2] <;> rfl)
      obtain ⟨a1, c1, rfl, sx1, _⟩ := rx1.ent
      obtain ⟨a2, c2, rfl, sx2, _⟩ := rx2.ent
      have i1 : atI ys (0 + (k : Int)) = some (.ref a1) := by rw [Int.zero_add]; exact atI_nat ex1
      have i2 : atI ys (0 + (k : Int) + 1) = some (.ref a2) := by
        rw [Int.zero_add]
        exact atI_nat (j := k + 1) ex2
      walk_at "go"
      refine u_ixT ht3 i1 ?_
      walk_at "go"
      refine u_ixT sx1 rfl ?_
      walk_at "go"
      refine u_ixT ht3 i2 ?_
      walk_at "go"
      refine u_ixT sx2 rfl ?_
      walk_at "go"
      refine rd_split (fun z => absurd z (by show ¬ b1.H ≤ b2.H; omega)) (fun _ => ?_)
      walk_at "go"
      refine u_ixT ht3 i1 ?_
      walk_at "go"
      refine u_ixT sx1 rfl ?_
      walk_at "go"
      refine u_ixT ht3 i2 ?_
      walk_at "go"
      refine u_ixT sx2 rfl ?_
      walk_at "go"
      refine rd_split (fun z => absurd z (by show ¬ b2.V ≤ b1.V; omega)) (fun _ => ?_)
      walk_at "go"
      exact ⟨_, rfl, rfl⟩
    · rintro σ H' ⟨o6, rfl, rfl⟩
      walk_at "go"
      exact q _ sH3
end
end Mine

/-! ### G8 -/
namespace Mine
open PySem PySem.Spec L2
local macro_rules | `(tactic| walk_at "st") => `(tactic| first
  | ((with_reducible apply rd_var); exact rfl)
  | (with_reducible apply rd_c)
  | (with_reducible apply rd_seq)
  | (with_reducible apply rd_asg)
  | (with_reducible apply rd_gname)
  | (with_reducible apply rd_op)
  | (with_reducible apply rd_cb)
  | (with_reducible apply rd_cons)
  | (with_reducible apply rd_nil)
  | (with_reducible apply rd_if)
  | (with_reducible apply rd_test)
  | (with_reducible apply rd_bl)
  | (with_reducible apply rd_retE)
  | (with_reducible apply rd_ret)
  | (with_reducible apply rd_call)
  | (with_reducible apply rd_tup)
  | (with_reducible apply rd_lst)
  | (with_reducible apply rd_drop)
  | (with_reducible apply rd_next)
  | (with_reducible apply rd_ife)
  | (with_reducible apply rd_gsub)
  | (with_reducible apply rd_par)
  | (with_reducible apply rd_par_end)
  | (with_reducible apply rd_un)
  | (with_reducible apply rd_and)
  | (with_reducible apply rd_or)
  | (with_reducible apply rd_not)
  | (with_reducible apply rd_andV)
  | (with_reducible apply rd_orV)
  | (with_reducible apply rd_notV)
  | (with_reducible apply rd_chain)
  | (with_reducible apply rd_tB)
  | (with_reducible apply rd_brk)
  | (with_reducible apply rd_ct)
  | (with_reducible apply u_add)
  | (with_reducible apply u_sub)
  | (with_reducible apply u_lt)
  | (with_reducible apply u_le)
  | (with_reducible apply u_gt)
  | (with_reducible apply u_ge)
  | (with_reducible apply u_eqI)
  | (with_reducible apply u_eqS)
  | (with_reducible apply u_neI)
  | (with_reducible apply u_int)
  | (with_reducible apply u_intB)
  | (with_reducible apply u_max)
  | (with_reducible apply u_min)
  | (with_reducible apply u_neg)
  | ((with_reducible apply u_mod); focus first | assumption | decide | omega)
  | ((with_reducible apply u_div); focus first | decide | omega | (constructor <;> first | assumption | omega))
  | ((with_reducible apply u_mul); focus first | exact Or.inl (by omega) | exact Or.inr (by omega) | exact Or.inl (by decide) | exact Or.inr (by decide))
  | ((with_reducible apply u_ixL); (focus (first | assumption | exact SqL.of (by assumption) | exact SqL.of upd_same)); exact rfl)
  | ((with_reducible apply u_lenL); focus (first | assumption | exact SqL.of (by assumption) | exact SqL.of upd_same))
  | ((with_reducible apply u_lenT); focus (first | assumption | exact SqT.of (by assumption) | exact SqT.of upd_same))
  | ((with_reducible apply u_setL); (focus (first | assumption | exact upd_same)); exact rfl)
  | (with_reducible apply rd_chain3)
  | (with_reducible apply rd_tru)
  | (with_reducible apply rd_truB)
  | ((with_reducible apply rd_truL); focus (first | assumption | exact SqL.of (by assumption) | exact SqL.of upd_same))
  | (with_reducible apply rd_bm)
  | (with_reducible apply rd_bm0)
  | ((with_reducible apply rd_tyL); focus (first | exact SqL.of (by assumption) | exact SqL.of upd_same))
  | (with_reducible apply u_min3)
  | (with_reducible apply rd_rev)
  | (with_reducible apply rd_iList)
  | (with_reducible apply rd_iTup)
  | (with_reducible apply rd_for)
  | (with_reducible apply rd_rng1)
  | (with_reducible apply rd_rng2)
  | ((with_reducible apply rd_rng1e); (focus omega); (focus omega))
  | ((with_reducible apply rd_rng2e); (focus omega))
  | (with_reducible apply rd_gcons)
  | (with_reducible apply rd_gnil)
  | (with_reducible apply rd_retN)
  | (with_reducible apply g_eqI)
  | (with_reducible apply g_eqS)
  | (with_reducible apply g_neI)
  | (with_reducible apply g_neS)
  | (with_reducible apply g_neB)
  | (with_reducible apply rd_xf)
  | (with_reducible apply rd_raiseE)
  | (with_reducible apply rd_callS)
  | (with_reducible apply u_inD)
  | (with_reducible apply u_notInD)
  | (with_reducible apply u_inS)
  | (with_reducible apply u_notInS)
  | (with_reducible apply rd_iSeq)
  | ((with_reducible apply rd_seqL); (focus first | assumption | exact SqL.of (by assumption) | exact SqL.of upd_same))
  | ((with_reducible apply rd_seqT); (focus first | assumption | exact SqT.of (by assumption) | exact SqT.of upd_same))
  | (with_reducible apply rd_istr)
  | (with_reducible apply rd_istrE)
  | ((with_reducible apply u_isi); (focus (first | exact Or.inl rfl | exact Or.inr (Or.inl rfl) | exact Or.inr (Or.inr (Or.inl rfl)) | exact Or.inr (Or.inr (Or.inr rfl)))); (focus first | assumption | exact Rp.int _ | exact Rp.str _))
  | ((with_reducible apply rd_itL); (focus first | assumption | exact SqL.of (by assumption) | exact SqL.of upd_same))
  | ((with_reducible apply rd_itT); (focus first | assumption | exact SqT.of (by assumption) | exact SqT.of upd_same))
  | (with_reducible apply rd_lc)
  | (with_reducible apply rd_yes)
  | ((with_reducible apply u_pow); (focus (exact ⟨by decide, by decide, by decide⟩)))
  | (with_reducible apply u_mul; focus exact Or.inr cm)
  | (with_reducible apply rd_par3)
  | (with_reducible apply rd_par3_end)
  | ((with_reducible apply rd_aug); exact rfl)
  | (with_reducible apply rd_ipI)
  | (with_reducible apply rd_enA)
  | ((with_reducible apply u_enT); (focus first | assumption | exact SqT.of (by assumption) | exact SqT.of upd_same))
  | ((with_reducible apply u_enL); (focus first | assumption | exact SqL.of (by assumption) | exact SqL.of upd_same))
  | (with_reducible apply rd_zip)
  | (with_reducible apply rd_lc2)
  | ((with_reducible apply rd_gtup); (focus first | assumption | exact SqT.of (by assumption) | exact SqT.of upd_same); (focus rfl))
  | (with_reducible apply rd_dnew)
  | (with_reducible apply rd_din)
  | (with_reducible apply rd_dget)
  | (with_reducible apply rd_dput)
  | (with_reducible apply rd_disp1)
  | (with_reducible apply rd_sl)
  | (with_reducible apply rd_part)
  | (with_reducible apply rd_partI)
  | (with_reducible apply rd_nopart)
  | (with_reducible apply iteT)
  | (with_reducible apply iteF))
local macro_rules | `(tactic| walk_at "go") => `(tactic| repeat (walk_at "st"))
local macro_rules | `(tactic| walk_at "sp") => `(tactic| (first | refine rd_split (fun c => ?_) (fun c => ?_) | refine rd_splitN (fun c => ?_) (fun c => ?_) | refine rd_splitB (fun c => ?_) (fun c => ?_)))
local macro_rules | `(tactic| walk_at "nx") => `(tactic| repeat (first | (with_reducible apply iteF) | (with_reducible apply iteT) | (with_reducible apply rd_next)))

section
variable {P : Program} {w : World} {K : PySem.W.Frag} {mg : Str → Option Value} {base : Heap}
/-- what has been laid, with its data -/
structure LayP (K : PySem.W.Frag) (a : Addr) (H0 : Hp) (L : List (V × PyData)) (H : Hp) : Prop where
  sb : SB a H0 H
  src : Src H a
  rp : ∀ p ∈ L, Rp K H p.1 p.2
section
variable {K : PySem.W.Frag} {a p : Addr} {H0 H H' : Hp} {L : List (V × PyData)}
theorem LayP.start (h : Src H a) : LayP K a H [] H := ⟨SB.refl, h, fun _ z => nomatch z⟩
theorem rps_pairs : ∀ {XS : List (V × PyData)}, (∀ q ∈ XS, Rp K H q.1 q.2) → Rps K H (XS.map (·.1)) (XS.map (·.2))
  | [], _ => .nil
  | x :: r, h => .cons (h x List.mem_cons_self) (rps_pairs fun q hq => h q (List.mem_cons_of_mem _ hq))
theorem LayP.tup {XS : List (V × PyData)} (h : LayP K a H0 L H) (hp : H p = none) (hx : ∀ q ∈ XS, q ∈ L ∨ ∀ H, Rp K H q.1 q.2) : LayP K a H0 ((.ref p, .tuple (XS.map (·.2))) :: L) (upd H p (.tup (XS.map (·.1)))) := by
  have e : Ext K H (upd H p (.tup (XS.map (·.1)))) := Ext.new hp
  refine ⟨h.sb.new hp, h.src.new hp, fun q hq => ?_⟩
  rcases List.mem_cons.mp hq with rfl | hq
  · refine .tup (SqT.of upd_same) (rps_pairs fun q hq => ?_)
    rcases hx q hq with z | z
    · exact (h.rp q z).mono e _ _
    · exact z _
  · exact (h.rp q hq).mono e _ _
theorem LayP.lst {xs : List V} (h : LayP K a H0 L H) (hp : H p = none) : LayP K a H0 L (upd H p (.lst xs)) := ⟨h.sb.new hp, h.src.new hp, fun q hq => (h.rp q hq).mono (Ext.new hp) _ _⟩
theorem LayP.sbx (h : LayP K a H0 L H) (s : SB a H H') (hs : Src H' a) : LayP K a H0 L H' := ⟨h.sb.trans s, hs, fun q hq => (h.rp q hq).mono (h.src.ext s) _ _⟩
theorem lp0 : ∀ q ∈ ([] : List (V × PyData)), q ∈ L ∨ ∀ H, Rp K H q.1 q.2 := fun _ z => nomatch z
theorem lp1 {x : V × PyData} {r : List (V × PyData)} (h : x ∈ L ∨ ∀ H, Rp K H x.1 x.2) (k : ∀ q ∈ r, q ∈ L ∨ ∀ H, Rp K H q.1 q.2) : ∀ q ∈ x :: r, q ∈ L ∨ ∀ H, Rp K H q.1 q.2 := fun q hq => by
  rcases List.mem_cons.mp hq with rfl | hq
  · exact h
  · exact k q hq
end
theorem seq_on {K : PySem.W.Frag} {H H2 H3 : Hp} {a p : Addr} {xs : List V} (h : SqL K H a xs) (s : Same H H2) (hp : H p = none) (t : SB p H2 H3) : SqL K H3 a xs := by
  rcases h with (h | ⟨o, h⟩) | h
  · exact .inl (.inl (t _ _ (ne_of_none h hp) (s _ _ h)))
  · exact .inl (.inr ⟨o, t _ _ (ne_of_none h hp) (s _ _ h)⟩)
  · exact .inr h
theorem flat2 : ∀ {es : List Ent}, (∀ e ∈ es, EntOk e) → (es.flatMap Ent.s).length ≤ 2 * es.length
  | [], _ => Nat.le_refl _
  | e :: r, h => by
    have h1 := (h e List.mem_cons_self).s
    have h2 := flat2 (es := r) fun x hx => h x (List.mem_cons_of_mem _ hx)
    rw [List.flatMap_cons, List.length_append, List.length_cons]
    omega
theorem fl_nil {bs : List Bk} (h : Good bs) (e : fl bs = []) : bs = [] := by
  have := h.card
  rw [e] at this
  exact List.eq_nil_of_length_eq_zero (Nat.le_zero.mp this)
theorem row_dat {i : Int} : dat (.tuple [.str "row", .int i]) := by
  simp only [dat, dats]
  exact ⟨by simp, ⟨by decide, by decide +kernel⟩, trivial, trivial⟩
theorem firstBad_ins {es : List Ent} {k : Nat} {d : PyData} (h : ∀ e ∈ es, EntOk e) (hk : k ≤ es.length) (hd : isEnt d = false) : firstBad ((((es.map Ent.py).take k ++ [d]) ++ (es.map Ent.py).drop k) ++ [.none]) k := by
  have lt : ((es.map Ent.py).take k).length = k := by rw [List.length_take, List.length_map]; omega
  refine ⟨fun j e hj he => ?_, d, ?_, hd⟩
  · rw [List.append_assoc, List.append_assoc, List.getElem?_append_left (by omega), List.getElem?_take_of_lt hj, List.getElem?_map, Option.map_eq_some_iff] at he
    obtain ⟨x, hx, rfl⟩ := he
    have := h x (List.mem_of_getElem? hx)
    exact ent_is ⟨this.n, this.h⟩
  · rw [List.append_assoc, List.append_assoc, List.getElem?_append_right (by omega), lt, Nat.sub_self]
    rfl
def spLaw (K : PySem.W.Frag) : Sp := fun vs H Q _ => ∃ (a : Addr) (ns : List Int), vs = [.ref a] ∧ SqL K H a (ns.map V.int) ∧ ns.length ≤ 63 ∧ ∀ H', Q (.bl true) H'
abbrev s_law : Stmt := top 20
theorem sc_law : FnScope ["script", "turn", "source", "run", "told", "odd", "at"] ["script"] (defScope s_law) := ⟨rfl, rfl, rfl, by decide +kernel, rfl, by decide +kernel, by decide +kernel⟩
theorem ok_law {f : Addr} {fd : FuncData} (F : Fun K "law" "law" s_law f fd) (B : Bl mg) (h_law_pool : HasF P w K mg base CX0 1 "_law_pool" ["script", "k"] (spPool K)) (h_law_take : HasF P w K mg base CX0 1 "_law_take" ["source", "top"] spTake) (h_law_one : HasF P w K mg base CX0 2 "_law_one" ["source", "things"] (spOne K)) (h_law_run : HasF P w K mg base CX0 3 "_law_run" ["source", "most"] (spRn K)) (h_law_told : HasF P w K mg base CX0 6 "_law_told" ["run"] (spTd K)) (h_law_hills : HasF P w K mg base CX0 1 "_law_hills" ["walk"] (spLh K)) (h_law_shape_right : HasF P w K mg base CX0 1 "_law_shape_right" ["run", "told"] (spSh K)) : FnOk P w K mg base CX0 7 f fd ["script"] (spLaw K) := by
  refine F.ok sc_law (fun vs H Q E h => ?_) (fun cdv A outer s_ H vs Q E hr h => ?_)
  · obtain ⟨a, ns, rfl, _⟩ := h
    rfl
  obtain ⟨a, ns, rfl, hL, h63, q⟩ := h
  have hl : (ns.map V.int).length = ns.length := List.length_map _
  refine ⟨_, (pss_cons (ps_for PassesOwn.never rfl (pi_range1 (by rfl) B.range (pa_cons pe_int pa_nil)) (pg_name (i := 1) sc_law.nd rfl (by first | exact Or.inl rfl | exact Or.inr rfl)) (pss_cons (ps_set (i := 2) sc_law.nd rfl (by first | exact Or.inl rfl | exact Or.inr rfl) (pe_callH h_law_pool (hr.mono (by first | decide | omega)) (by rfl) pass0 (pa_cons (pv 0) (pa_cons (pv 1) pa_nil)))) (pss_cons (ps_set (i := 3) sc_law.nd rfl (by first | exact Or.inl rfl | exact Or.inr rfl) (pe_callH h_law_run (hr.mono (by first | decide | omega)) (by rfl) pass0 (pa_cons (pv 2) (pa_cons (pe_callH h_law_one (hr.mono (by first | decide | omega)) (by rfl) pass0 (pa_cons (pv 2) (pa_cons (pe_lst (pa_cons pe_int (pa_cons pe_int (pa_cons pe_int (pa_cons pe_int (pa_cons pe_int pa_nil)))))) pa_nil))) pa_nil)))) (pss_cons (ps_set (i := 4) sc_law.nd rfl (by first | exact Or.inl rfl | exact Or.inr rfl) (pe_callH h_law_told (hr.mono (by first | decide | omega)) (by rfl) pass0 (pa_cons (pv 3) pa_nil))) (pss_cons (ps_if (PW.pt (pw_or (pt_cmpR (kNeG K (hU hr)) (pv 4) (pe_callTy (kTup K) (by rfl) B.tuple (by decide +kernel) (pa_cons (pe_callH h_law_hills (hr.mono (by first | decide | omega)) (by rfl) pass0 (pa_cons (pv 3) pa_nil)) pa_nil)) (nomark _)) (pw_or1 (pt_not (pt_val (pe_callH h_law_shape_right (hr.mono (by first | decide | omega)) (by rfl) pass0 (pa_cons (pv 3) (pa_cons (pv 4) pa_nil)))))))) (pss_one (ps_ret pe_bl)) pss_nil) (pss_cons (ps_if (pt_cmpR (kNeG K (hU hr)) (pe_callH h_law_told (hr.mono (by first | decide | omega)) (by rfl) pass0 (pa_cons (pe_tup pa_nil) pa_nil)) (pe_tup pa_nil) (nomark _)) (pss_one (ps_ret pe_bl)) pss_nil) (pss_cons (ps_set (i := 5) sc_law.nd rfl (by first | exact Or.inl rfl | exact Or.inr rfl) (pe_callH h_law_one (hr.mono (by first | decide | omega)) (by rfl) pass0 (pa_cons (pv 2) (pa_cons (pe_lst (pa_cons pe_non (pa_cons pe_str (pa_cons pe_int (pa_cons (pe_tup pa_nil) (pa_cons (pe_tup (pa_cons pe_int (pa_cons pe_int pa_nil))) (pa_cons (pe_tup (pa_cons pe_int (pa_cons pe_int (pa_cons (pe_tup pa_nil) (pa_cons (pe_tup pa_nil) pa_nil))))) (pa_cons (pe_tup (pa_cons (pe_un un_neg pe_int) (pa_cons pe_int (pa_cons (pe_tup pa_nil) pa_nil)))) (pa_cons (pe_tup (pa_cons pe_int (pa_cons (pe_un un_neg pe_int) (pa_cons (pe_tup pa_nil) pa_nil)))) (pa_cons (pe_tup (pa_cons (pe_tup pa_nil) (pa_cons pe_int (pa_cons (pe_tup pa_nil) pa_nil)))) (pa_cons (pe_tup (pa_cons pe_int (pa_cons pe_non (pa_cons (pe_tup pa_nil) pa_nil)))) (pa_cons (pe_tup (pa_cons pe_int (pa_cons pe_int (pa_cons pe_non pa_nil)))) (pa_cons (pe_tup (pa_cons pe_int (pa_cons pe_int (pa_cons pe_str pa_nil)))) (pa_cons (pe_tup (pa_cons pe_str (pa_cons pe_int (pa_cons (pe_tup pa_nil) pa_nil)))) (pa_cons (pe_tup (pa_cons pe_int (pa_cons (pe_un un_neg (pe_op powU pe_int pe_int)) (pa_cons (pe_tup pa_nil) pa_nil)))) (pa_cons (pe_tup (pa_cons (pe_tup (pa_cons pe_int (pa_cons pe_int (pa_cons (pe_tup pa_nil) pa_nil)))) pa_nil)) pa_nil)))))))))))))))) pa_nil)))) (pss_cons (ps_set (i := 6) sc_law.nd rfl (by first | exact Or.inl rfl | exact Or.inr rfl) (pe_callH h_law_take (hr.mono (by first | decide | omega)) (by rfl) pass0 (pa_cons (pv 2) (pa_cons (pe_op (kAdd K) (pe_callB (kLen K) (by rfl) B.len (by decide +kernel) (pa_cons (pv 3) pa_nil)) pe_int) pa_nil)))) (pss_one (ps_if (pt_cmpR (kNeG K (hU hr)) (pe_callH h_law_told (hr.mono (by first | decide | omega)) (by rfl) pass0 (pa_cons (pe_op (kAdd K) (pe_op (kAdd K) (pe_op (kAdd K) (pe_slice (kSl K) (pv 3) po_none (po_some (pv 6))) (pe_tup (pa_cons (pv 5) pa_nil))) (pe_slice (kSl K) (pv 3) (po_some (pv 6)) po_none)) (pe_tup (pa_cons pe_non pa_nil))) pa_nil)) (pe_tup (pa_cons pe_str (pa_cons (pv 6) pa_nil))) (nomark _)) (pss_one (ps_ret pe_bl)) pss_nil)))))))))) (pss_one (ps_ret pe_bl))), ?_⟩
  refine st0 [some (.ref a), none, none, none, none, none, none] rfl ?_
  walk_at "go"
  refine forR (fun i σ H' => ∃ (o1 o2 o3 o4 o5 o6 : Option V), σ = [some (.ref a), o1, o2, o3, o4, o5, o6] ∧ SqL K H' a (ns.map V.int)) ⟨_, _, _, _, _, _, rfl, hL⟩ ?_ ?_
  · rintro i σ H1 hi ⟨o1, o2, o3, o4, o5, o6, rfl, hL'⟩
    walk_at "go"
    refine ⟨a, ns, _, rfl, hL', by omega, by omega, fun H2 p s2 hp hS => ?_⟩
    walk_at "go"
    refine ⟨lk rfl, fun px hpx => ?_⟩
    walk_at "go"
    refine use_one (xs := [.int 3, .int 6, .int 12, .int 12, .int 40]) (hS.new hpx) (SqL.of upd_same) (hS.ne hpx) (by simp) (by simp) fun H3 v s3 hS3 hv => ?_
    have sb3 : SB p H2 H3 := (SB.refl.new hpx).trans s3
    obtain ⟨m, rfl, hm0, hm1⟩ : ∃ m : Int, v = .int m ∧ 0 ≤ m ∧ m ≤ 40 := by
      have hv' : v = .int 3 ∨ v = .int 6 ∨ v = .int 12 ∨ v = .int 40 := by simpa using hv
      rcases hv' with rfl | rfl | rfl | rfl <;> exact ⟨_, rfl, by omega, by omega⟩
    walk_at "go"
    refine use_rn hS3 hm0 hm1 fun H4 rn xs es s4 hS4 hxs hR hE hl40 => ?_
    have sb4 := sb3.trans s4
    have hf2 := flat2 hE
    have lx := hR.lenE
    walk_at "go"
    refine ⟨rn, xs, _, rfl, hxs, hR, .inr ⟨es, rfl, fun e he => ⟨(hE e he).n, (hE e he).h⟩, by omega, by omega, fun H5 tq ys bs s5 hys hT hG hfl => ?_⟩⟩
    have sb5 := sb4.trans (SB.of_same s5)
    have hxs5 := Ext.of_same (K := K) s5 _ _ hxs
    have hR5 := hR.mono (Ext.of_same (K := K) s5) _ _
    have hS5 := hS4.same s5
    subst hfl
    walk_at "go"
    refine ⟨rn, xs, bs, rfl, hxs5, hR5, hG, by omega, by omega, fun H6 pl ws s6 hpl hws hW => ?_⟩
    walk_at "go"
    refine u_tupL (SqL.of hws) fun pt hpt => ?_
    have s7 := Same.new (o := .tup ws) s6 hpt
    have hpt7 : SqT K (upd H6 pt (.tup ws)) pt ws := SqT.of upd_same
    have hW7 := hW.mono (Ext.new (K := K) (o := .tup ws) hpt) _ _
    generalize upd H6 pt (.tup ws) = H7 at *
    walk_at "go"
    have lbs := hG.card
    have hD : dat (.tuple ((bs.map seg).map Ent.py)) := by
      simp only [dat, List.length_map]
      exact ⟨by omega, ents_dat (sumS (m := 1000) (by rw [seg_flat]; omega))⟩
    have hdp : (PyData.tuple ((bs.map seg).map Ent.py)).depth ≤ 199 := by
      have := ents_deep (bs.map seg)
      simp only [PyData.depth]
      omega
    refine g_neD (d := .tuple ((bs.map seg).map Ent.py)) (e := .tuple ((bs.map seg).map Ent.py)) (Rp.dp _ _ (.tup (Ext.of_same s7 _ _ hys) (hT.mono (Ext.of_same s7) _ _))) (Rp.dp _ _ (.tup hpt7 hW7)) (dat_lay _ hD) (dat_lay _ hD) (Nat.le_trans (Nat.min_le_left _ _) hdp) ?_
    rw [eqv_same _ hD]
    refine ⟨false, rfl, ?_⟩
    refine iteF ?_
    walk_at "go"
    have hxs7 := Ext.of_same (K := K) s7 _ _ hxs5
    have hR7 := hR5.mono (Ext.of_same (K := K) s7) _ _
    refine ⟨rn, tq, xs, ys, bs, rfl, hxs7, hR7, Ext.of_same s7 _ _ hys, hT.mono (Ext.of_same s7) _ _, hG, by omega, by omega, fun H8 s8 => ?_⟩
    have sb8 := sb5.trans (SB.of_same (s7.trans s8))
    have hxs8 := Ext.of_same (K := K) s8 _ _ hxs7
    have hR8 := hR7.mono (Ext.of_same (K := K) s8) _ _
    have hS8 := (hS5.same s7).same s8
    walk_at "go"
    refine ⟨lk rfl, fun pe hpe => ?_⟩
    walk_at "go"
    refine ⟨pe, [], [], rfl, SqT.of upd_same, .nil, .inr ⟨[], rfl, (fun _ z => nomatch z), by simp, by simp, fun HA qe ye be sA hye hTe hGe hfe => ?_⟩⟩
    have hbe : be = [] := fl_nil hGe hfe
    subst hbe
    walk_at "go"
    refine ⟨lk rfl, fun pf hpf => ?_⟩
    have sB := Same.new (o := .tup []) ((same_new hpe (.tup [])).trans sA) hpf
    have tB : SqT K (upd HA pf (.tup [])) pf [] := SqT.of upd_same
    have yB := Ext.new (K := K) (o := .tup []) hpf _ _ hye
    have wB := hTe.mono (Ext.new (K := K) (o := .tup []) hpf) _ _
    generalize upd HA pf (.tup []) = H9 at *
    walk_at "go"
    refine g_neD (d := .tuple []) (e := .tuple []) (Rp.dp _ _ (.tup yB wB)) (Rp.dp _ _ (.tup tB .nil)) (by decide) (by decide) (by decide) ?_
    have ee : PyData.eqv (.tuple []) (.tuple []) = true := by decide
    rw [ee]
    refine ⟨false, rfl, ?_⟩
    refine iteF ?_
    have hS9 := hS8.same sB
    have hxs9 := Ext.of_same (K := K) sB _ _ hxs8
    have hR9 := hR8.mono (Ext.of_same (K := K) sB) _ _
    have sb9 := sb8.trans (SB.of_same sB)
    have l0 : LayP K p H9 [] H9 := LayP.start hS9
    walk_at "go"
    refine ⟨lk rfl, fun p1 hp1 => ?_⟩
    have pl1 := l0.tup (XS := []) hp1 lp0
    change LayP K _ _ _ (upd H9 p1 (.tup [])) at pl1
    generalize upd H9 p1 (.tup []) = pH1 at *
    walk_at "go"
    refine ⟨lk rfl, fun p2 hp2 => ?_⟩
    have pl2 := pl1.tup (XS := [(.int 1, .int 1), (.int 2, .int 2)]) hp2 (lp1 (.inr fun _ => .int _) (lp1 (.inr fun _ => .int _) lp0))
    change LayP K _ _ _ (upd pH1 p2 (.tup [.int 1, .int 2])) at pl2
    generalize upd pH1 p2 (.tup [.int 1, .int 2]) = pH2 at *
    walk_at "go"
    refine ⟨lk rfl, fun p3 hp3 => ?_⟩
    have pl3 := pl2.tup (XS := []) hp3 lp0
    change LayP K _ _ _ (upd pH2 p3 (.tup [])) at pl3
    generalize upd pH2 p3 (.tup []) = pH3 at *
    walk_at "go"
    refine ⟨lk rfl, fun p4 hp4 => ?_⟩
    have pl4 := pl3.tup (XS := []) hp4 lp0
    change LayP K _ _ _ (upd pH3 p4 (.tup [])) at pl4
    generalize upd pH3 p4 (.tup []) = pH4 at *
    walk_at "go"
    refine ⟨lk rfl, fun p5 hp5 => ?_⟩
    have pl5 := pl4.tup (XS := [(.int 1, .int 1), (.int 2, .int 2), (.ref p3, .tuple []), (.ref p4, .tuple [])]) hp5 (lp1 (.inr fun _ => .int _) (lp1 (.inr fun _ => .int _) (lp1 (.inl (.tail _ (.head _))) (lp1 (.inl (.head _)) lp0))))
    change LayP K _ _ _ (upd pH4 p5 (.tup [.int 1, .int 2, .ref p3, .ref p4])) at pl5
    generalize upd pH4 p5 (.tup [.int 1, .int 2, .ref p3, .ref p4]) = pH5 at *
    walk_at "go"
    refine ⟨lk rfl, fun p6 hp6 => ?_⟩
    have pl6 := pl5.tup (XS := []) hp6 lp0
    change LayP K _ _ _ (upd pH5 p6 (.tup [])) at pl6
    generalize upd pH5 p6 (.tup []) = pH6 at *
    walk_at "go"
    refine ⟨lk rfl, fun p7 hp7 => ?_⟩
    have pl7 := pl6.tup (XS := [(.int (-1), .int (-1)), (.int 0, .int 0), (.ref p6, .tuple [])]) hp7 (lp1 (.inr fun _ => .int _) (lp1 (.inr fun _ => .int _) (lp1 (.inl (.head _)) lp0)))
    change LayP K _ _ _ (upd pH6 p7 (.tup [.int (-1), .int 0, .ref p6])) at pl7
    generalize upd pH6 p7 (.tup [.int (-1), .int 0, .ref p6]) = pH7 at *
    walk_at "go"
    refine ⟨lk rfl, fun p8 hp8 => ?_⟩
    have pl8 := pl7.tup (XS := []) hp8 lp0
    change LayP K _ _ _ (upd pH7 p8 (.tup [])) at pl8
    generalize upd pH7 p8 (.tup []) = pH8 at *
    walk_at "go"
    refine ⟨lk rfl, fun p9 hp9 => ?_⟩
    have pl9 := pl8.tup (XS := [(.int 0, .int 0), (.int (-1), .int (-1)), (.ref p8, .tuple [])]) hp9 (lp1 (.inr fun _ => .int _) (lp1 (.inr fun _ => .int _) (lp1 (.inl (.head _)) lp0)))
    change LayP K _ _ _ (upd pH8 p9 (.tup [.int 0, .int (-1), .ref p8])) at pl9
    generalize upd pH8 p9 (.tup [.int 0, .int (-1), .ref p8]) = pH9 at *
    walk_at "go"
    refine ⟨lk rfl, fun p10 hp10 => ?_⟩
    have pl10 := pl9.tup (XS := []) hp10 lp0
    change LayP K _ _ _ (upd pH9 p10 (.tup [])) at pl10
    generalize upd pH9 p10 (.tup []) = pH10 at *
    walk_at "go"
    refine ⟨lk rfl, fun p11 hp11 => ?_⟩
    have pl11 := pl10.tup (XS := []) hp11 lp0
    change LayP K _ _ _ (upd pH10 p11 (.tup [])) at pl11
    generalize upd pH10 p11 (.tup []) = pH11 at *
    walk_at "go"
    refine ⟨lk rfl, fun p12 hp12 => ?_⟩
    have pl12 := pl11.tup (XS := [(.ref p10, .tuple []), (.int 0, .int 0), (.ref p11, .tuple [])]) hp12 (lp1 (.inl (.tail _ (.head _))) (lp1 (.inr fun _ => .int _) (lp1 (.inl (.head _)) lp0)))
    change LayP K _ _ _ (upd pH11 p12 (.tup [.ref p10, .int 0, .ref p11])) at pl12
    generalize upd pH11 p12 (.tup [.ref p10, .int 0, .ref p11]) = pH12 at *
    walk_at "go"
    refine ⟨lk rfl, fun p13 hp13 => ?_⟩
    have pl13 := pl12.tup (XS := []) hp13 lp0
    change LayP K _ _ _ (upd pH12 p13 (.tup [])) at pl13
    generalize upd pH12 p13 (.tup []) = pH13 at *
    walk_at "go"
    refine ⟨lk rfl, fun p14 hp14 => ?_⟩
    have pl14 := pl13.tup (XS := [(.int 0, .int 0), (.non, .none), (.ref p13, .tuple [])]) hp14 (lp1 (.inr fun _ => .int _) (lp1 (.inr fun _ => .non) (lp1 (.inl (.head _)) lp0)))
    change LayP K _ _ _ (upd pH13 p14 (.tup [.int 0, .non, .ref p13])) at pl14
    generalize upd pH13 p14 (.tup [.int 0, .non, .ref p13]) = pH14 at *
    walk_at "go"
    refine ⟨lk rfl, fun p15 hp15 => ?_⟩
    have pl15 := pl14.tup (XS := [(.int 0, .int 0), (.int 0, .int 0), (.non, .none)]) hp15 (lp1 (.inr fun _ => .int _) (lp1 (.inr fun _ => .int _) (lp1 (.inr fun _ => .non) lp0)))
    change LayP K _ _ _ (upd pH14 p15 (.tup [.int 0, .int 0, .non])) at pl15
    generalize upd pH14 p15 (.tup [.int 0, .int 0, .non]) = pH15 at *
    walk_at "go"
    refine ⟨lk rfl, fun p16 hp16 => ?_⟩
    have pl16 := pl15.tup (XS := [(.int 0, .int 0), (.int 0, .int 0), (.str (Str.ofString "ab"), .str (Str.ofString "ab"))]) hp16 (lp1 (.inr fun _ => .int _) (lp1 (.inr fun _ => .int _) (lp1 (.inr fun _ => .str _) lp0)))
    change LayP K _ _ _ (upd pH15 p16 (.tup [.int 0, .int 0, .str (Str.ofString "ab")])) at pl16
    generalize upd pH15 p16 (.tup [.int 0, .int 0, .str (Str.ofString "ab")]) = pH16 at *
    walk_at "go"
    refine ⟨lk rfl, fun p17 hp17 => ?_⟩
    have pl17 := pl16.tup (XS := []) hp17 lp0
    change LayP K _ _ _ (upd pH16 p17 (.tup [])) at pl17
    generalize upd pH16 p17 (.tup []) = pH17 at *
    walk_at "go"
    refine ⟨lk rfl, fun p18 hp18 => ?_⟩
    have pl18 := pl17.tup (XS := [(.str (Str.ofString "3"), .str (Str.ofString "3")), (.int 1, .int 1), (.ref p17, .tuple [])]) hp18 (lp1 (.inr fun _ => .str _) (lp1 (.inr fun _ => .int _) (lp1 (.inl (.head _)) lp0)))
    change LayP K _ _ _ (upd pH17 p18 (.tup [.str (Str.ofString "3"), .int 1, .ref p17])) at pl18
    generalize upd pH17 p18 (.tup [.str (Str.ofString "3"), .int 1, .ref p17]) = pH18 at *
    walk_at "go"
    refine ⟨lk rfl, fun p19 hp19 => ?_⟩
    have pl19 := pl18.tup (XS := []) hp19 lp0
    change LayP K _ _ _ (upd pH18 p19 (.tup [])) at pl19
    generalize upd pH18 p19 (.tup []) = pH19 at *
    walk_at "go"
    refine ⟨lk rfl, fun p20 hp20 => ?_⟩
    have pl20 := pl19.tup (XS := [(.int 0, .int 0), (.int (-(10 ^ (20 : Int).toNat)), .int (-(10 ^ (20 : Int).toNat))), (.ref p19, .tuple [])]) hp20 (lp1 (.inr fun _ => .int _) (lp1 (.inr fun _ => .int _) (lp1 (.inl (.head _)) lp0)))
    change LayP K _ _ _ (upd pH19 p20 (.tup [.int 0, .int (-(10 ^ (20 : Int).toNat)), .ref p19])) at pl20
    generalize upd pH19 p20 (.tup [.int 0, .int (-(10 ^ (20 : Int).toNat)), .ref p19]) = pH20 at *
    walk_at "go"
    refine ⟨lk rfl, fun p21 hp21 => ?_⟩
    have pl21 := pl20.tup (XS := []) hp21 lp0
    change LayP K _ _ _ (upd pH20 p21 (.tup [])) at pl21
    generalize upd pH20 p21 (.tup []) = pH21 at *
    walk_at "go"
    refine ⟨lk rfl, fun p22 hp22 => ?_⟩
    have pl22 := pl21.tup (XS := [(.int 1, .int 1), (.int 1, .int 1), (.ref p21, .tuple [])]) hp22 (lp1 (.inr fun _ => .int _) (lp1 (.inr fun _ => .int _) (lp1 (.inl (.head _)) lp0)))
    change LayP K _ _ _ (upd pH21 p22 (.tup [.int 1, .int 1, .ref p21])) at pl22
    generalize upd pH21 p22 (.tup [.int 1, .int 1, .ref p21]) = pH22 at *
    walk_at "go"
    refine ⟨lk rfl, fun p23 hp23 => ?_⟩
    have pl23 := pl22.tup (XS := [(.ref p22, .tuple [.int 1, .int 1, .tuple []])]) hp23 (lp1 (.inl (.head _)) lp0)
    change LayP K _ _ _ (upd pH22 p23 (.tup [.ref p22])) at pl23
    generalize upd pH22 p23 (.tup [.ref p22]) = pH23 at *
    walk_at "go"
    refine ⟨lk rfl, fun pz hpz => ?_⟩
    walk_at "go"
    refine use_one (xs := [.non, .str (Str.ofString ""), .int 7, .ref p1, .ref p2, .ref p5, .ref p7, .ref p9, .ref p12, .ref p14, .ref p15, .ref p16, .ref p18, .ref p20, .ref p23]) (pl23.src.new hpz) (SqL.of upd_same) (pl23.src.ne hpz) (by simp) (by simp) fun H10 v s10 hS10 hv => ?_
    have lz := (pl23.lst (xs := [.non, .str (Str.ofString ""), .int 7, .ref p1, .ref p2, .ref p5, .ref p7, .ref p9, .ref p12, .ref p14, .ref p15, .ref p16, .ref p18, .ref p20, .ref p23]) hpz).sbx s10 hS10
    obtain ⟨d, hd, hbad⟩ : ∃ d, Rp K H10 v d ∧ isEnt d = false := by
      simp only [List.mem_cons, List.not_mem_nil, or_false] at hv
      rcases hv with rfl | rfl | rfl | rfl | rfl | rfl | rfl | rfl | rfl | rfl | rfl | rfl | rfl | rfl | rfl
      · exact ⟨_, Rp.non, by decide +kernel⟩
      · exact ⟨_, Rp.str _, by decide +kernel⟩
      · exact ⟨_, Rp.int _, by decide +kernel⟩
      · exact ⟨.tuple [], lz.rp _ (.tail _ (.tail _ (.tail _ (.tail _ (.tail _ (.tail _ (.tail _ (.tail _ (.tail _ (.tail _ (.tail _ (.tail _ (.tail _ (.tail _ (.tail _ (.tail _ (.tail _ (.tail _ (.tail _ (.tail _ (.tail _ (.tail _ (.head _))))))))))))))))))))))), by decide +kernel⟩
      · exact ⟨.tuple [.int 1, .int 2], lz.rp _ (.tail _ (.tail _ (.tail _ (.tail _ (.tail _ (.tail _ (.tail _ (.tail _ (.tail _ (.tail _ (.tail _ (.tail _ (.tail _ (.tail _ (.tail _ (.tail _ (.tail _ (.tail _ (.tail _ (.tail _ (.tail _ (.head _)))))))))))))))))))))), by decide +kernel⟩
      · exact ⟨.tuple [.int 1, .int 2, .tuple [], .tuple []], lz.rp _ (.tail _ (.tail _ (.tail _ (.tail _ (.tail _ (.tail _ (.tail _ (.tail _ (.tail _ (.tail _ (.tail _ (.tail _ (.tail _ (.tail _ (.tail _ (.tail _ (.tail _ (.tail _ (.head _))))))))))))))))))), by decide +kernel⟩
      · exact ⟨.tuple [.int (-1), .int 0, .tuple []], lz.rp _ (.tail _ (.tail _ (.tail _ (.tail _ (.tail _ (.tail _ (.tail _ (.tail _ (.tail _ (.tail _ (.tail _ (.tail _ (.tail _ (.tail _ (.tail _ (.tail _ (.head _))))))))))))))))), by decide +kernel⟩
      · exact ⟨.tuple [.int 0, .int (-1), .tuple []], lz.rp _ (.tail _ (.tail _ (.tail _ (.tail _ (.tail _ (.tail _ (.tail _ (.tail _ (.tail _ (.tail _ (.tail _ (.tail _ (.tail _ (.tail _ (.head _))))))))))))))), by decide +kernel⟩
      · exact ⟨.tuple [.tuple [], .int 0, .tuple []], lz.rp _ (.tail _ (.tail _ (.tail _ (.tail _ (.tail _ (.tail _ (.tail _ (.tail _ (.tail _ (.tail _ (.tail _ (.head _)))))))))))), by decide +kernel⟩
      · exact ⟨.tuple [.int 0, .none, .tuple []], lz.rp _ (.tail _ (.tail _ (.tail _ (.tail _ (.tail _ (.tail _ (.tail _ (.tail _ (.tail _ (.head _)))))))))), by decide +kernel⟩
      · exact ⟨.tuple [.int 0, .int 0, .none], lz.rp _ (.tail _ (.tail _ (.tail _ (.tail _ (.tail _ (.tail _ (.tail _ (.tail _ (.head _))))))))), by decide +kernel⟩
      · exact ⟨.tuple [.int 0, .int 0, .str (Str.ofString "ab")], lz.rp _ (.tail _ (.tail _ (.tail _ (.tail _ (.tail _ (.tail _ (.tail _ (.head _)))))))), by decide +kernel⟩
      · exact ⟨.tuple [.str (Str.ofString "3"), .int 1, .tuple []], lz.rp _ (.tail _ (.tail _ (.tail _ (.tail _ (.tail _ (.head _)))))), by decide +kernel⟩
      · exact ⟨.tuple [.int 0, .int (-(10 ^ (20 : Int).toNat)), .tuple []], lz.rp _ (.tail _ (.tail _ (.tail _ (.head _)))), by decide +kernel⟩
      · exact ⟨.tuple [.tuple [.int 1, .int 1, .tuple []]], lz.rp _ (.head _), by decide +kernel⟩
    have hxs10 := hS9.ext (K := K) lz.sb _ _ hxs9
    have hR10 := hR9.mono (hS9.ext (K := K) lz.sb) _ _
    walk_at "go"
    refine use_take hS10 (by omega) (by omega) fun H11 r s11 hS11 hr0 hr1 => ?_
    obtain ⟨k, rfl⟩ : ∃ k : Nat, r = k := ⟨r.toNat, by omega⟩
    have hk : k ≤ (fl bs).length := by omega
    have x11 := hS10.ext (K := K) s11
    have hxs11 := x11 _ _ hxs10
    have hR11 := hR10.mono x11 _ _
    have hd11 := hd.mono x11 _ _
    have sb11 := (sb9.trans lz.sb).trans s11
    walk_at "go"
    refine u_slS hxs11 fun q1 H12 s12 hq1 => ?_
    rw [cut_to] at hq1
    walk_at "go"
    refine ⟨lk rfl, fun po hpo => ?_⟩
    have s13 := Same.new (o := .tup [v]) s12 hpo
    have hq13 := Ext.new (K := K) (o := .tup [v]) hpo _ _ hq1
    have ho13 : SqT K (upd H12 po (.tup [v])) po [v] := SqT.of upd_same
    generalize upd H12 po (.tup [v]) = H13 at *
    walk_at "go"
    have lxs : xs.length ≤ 1000 := by omega
    refine u_catS hq13 ho13 (by rw [List.length_take]; exact ll (by show _ + 1 ≤ _; omega)) fun q2 H14 s14 hq2 => ?_
    walk_at "go"
    refine u_slS (Ext.of_same (s13.trans s14) _ _ hxs11) fun q3 H15 s15 hq3 => ?_
    rw [cut_from] at hq3
    walk_at "go"
    refine u_catS (Ext.of_same s15 _ _ hq2) hq3 (by rw [List.length_append, List.length_take, List.length_drop]; exact ll (by show _ + 1 + _ ≤ _; omega)) fun q4 H16 s16 hq4 => ?_
    walk_at "go"
    refine ⟨lk rfl, fun pn hpn => ?_⟩
    have s17 := Same.new (o := .tup [.non]) ((((s13.trans s14).trans s15)).trans s16) hpn
    have hq17 := Ext.new (K := K) (o := .tup [.non]) hpn _ _ hq4
    have hn17 : SqT K (upd H16 pn (.tup [.non])) pn [.non] := SqT.of upd_same
    generalize upd H16 pn (.tup [.non]) = H17 at *
    walk_at "go"
    refine u_catS hq17 hn17 (by rw [List.length_append, List.length_append, List.length_take, List.length_drop]; exact ll (by show _ + 1 + _ + 1 ≤ _; omega)) fun q5 H18 s18 hq5 => ?_
    walk_at "go"
    have s11' := s17.trans s18
    have hR18 := hR11.mono (Ext.of_same (K := K) s11') _ _
    have hd18 := hd11.mono (Ext.of_same (K := K) s11') _ _
    refine ⟨q5, _, _, rfl, hq5, (((hR18.take k).append (.one hd18)).append (hR18.drop k)).append (.one .non), .inl ⟨k, firstBad_ins hE hk hbad, fun H19 q6 s19 hq6 => ?_⟩⟩
    walk_at "go"
    refine ⟨lk rfl, fun pr hpr => ?_⟩
    have hq20 := Ext.new (K := K) (o := .tup [.str "row", .int (k : Nat)]) hpr _ _ hq6
    have hr20 : SqT K (upd H19 pr (.tup [.str "row", .int (k : Nat)])) pr [.str "row", .int (k : Nat)] := SqT.of upd_same
    have s20 := Same.new (o := .tup [.str "row", .int (k : Nat)]) (s11'.trans s19) hpr
    generalize upd H19 pr (.tup [.str "row", .int (k : Nat)]) = H20 at *
    walk_at "go"
    have hrow : ∀ a2, SqT K H20 a2 [.str "row", .int (k : Nat)] → Rp K H20 (.ref a2) (.tuple [.str "row", .int (k : Nat)]) := fun a2 z => .tup z (.cons (.str _) (.cons (.int _) .nil))
    refine g_neD (d := .tuple [.str "row", .int (k : Nat)]) (e := .tuple [.str "row", .int (k : Nat)]) (Rp.dp _ _ (hrow _ hq20)) (Rp.dp _ _ (hrow _ hr20)) (dat_lay _ row_dat) (dat_lay _ row_dat) (by simp [PyData.depth, PyData.depthAll]) ?_
    rw [eqv_same _ row_dat]
    refine ⟨false, rfl, ?_⟩
    refine iteF ?_
    walk_at "go"
    exact ⟨_, _, _, _, _, _, rfl, seq_on hL' s2 hp (sb11.trans (SB.of_same s20))⟩
  · rintro σ H' ⟨o1, o2, o3, o4, o5, o6, rfl, hL'⟩
    walk_at "go"
    exact q _
end
end Mine

/-! ### F1 -/
namespace Mine
open PySem PySem.Spec L2
/-! ## facts of the written part, made ready -/
section
variable {K : PySem.W.Frag} {h : Heap} {mg : Str → Option Value}
theorem ownF_mk {x : Str} {st : Stmt} {f : Addr} {oc : Value} {od an : Option Addr} {osl : Array (Option Value)} {kV doc pm cdv ct : Value} (X : K.In h) (G : h.Ns mainGlobals mg) (a : PySem.W.nsIn K mainGlobals x = some (some (.ref f)))
    (l : K.lookup f = some ⟨oc, od, .func (PySem.W.fnOf x x (defArgs st) (defBody st) (defScope st) .none kV doc pm an cdv ct), osl⟩)
    (c : PySem.W.codeIn K cdv x = true) (k : PySem.W.keepIn K (.ref f) = true) : OwnF K mg x st := ⟨f, _, fun_mk (st := st) l c k, PySem.W.mg_of X G a⟩
theorem int_mk {x : Str} {i : Int} {t : Tok} (X : K.In h) (G : h.Ns mainGlobals mg) (a : PySem.W.nsIn K mainGlobals x = some (some (.int i t))) : ∃ t, mg x = some (.int i t) := ⟨t, PySem.W.mg_of X G a⟩
theorem str_mk {x z : Str} {t : Tok} (X : K.In h) (G : h.Ns mainGlobals mg) (a : PySem.W.nsIn K mainGlobals x = some (some (.str z t))) : ∃ t, mg x = some (.str z t) := ⟨t, PySem.W.mg_of X G a⟩
/-! the two tables -/
def entB (e : DictEntry) : Option (Str × Addr) := match e.key, e.val with
  | .str x _, .ref b => some (x, b)
  | _, _ => none
def tabG (L : List (Str × Addr)) (z : Str) : Option Value := (L.find? fun p => p.1 == z).map fun p => .ref p.2
theorem ents_find {z : Str} : ∀ {es : List DictEntry} {L : List (Str × Addr)}, es.map entB = L.map some → (es.find? (·.key.isStr z)).map (·.val) = tabG L z ∧ es.any (·.refKey) = false
  | [], [], _ => ⟨rfl, rfl⟩
  | [], _ :: _, h => by simp at h
  | _ :: _, [], h => by simp at h
  | e :: es, p :: L, h => by
    rw [List.map_cons, List.map_cons] at h
    injection h with h1 h2
    obtain ⟨i1, i2⟩ := ents_find (z := z) h2
    obtain ⟨x, b⟩ := p
    have hk : ∃ t, e.key = .str x t ∧ e.val = .ref b := by
      unfold entB at h1
      split at h1
      · rename_i x' t' b' e1 e2
        cases h1
        exact ⟨t', e1, e2⟩
      · cases h1
    obtain ⟨t, k1, k2⟩ := hk
    have e3 : e.key.isStr z = (x == z) := by rw [k1] <;> rfl
    refine ⟨?_, ?_⟩
    · unfold tabG at i1 ⊢
      rw [List.find?_cons, List.find?_cons, e3]
      cases hx : (x == z) with
      | true => simp only [Option.map_some, k2]
      | false => exact i1
    · rw [List.any_cons, i2, Bool.or_false]
      unfold DictEntry.refKey
      rw [k1] <;> rfl
theorem tab_mk {w : World} {x : Str} {a : Addr} {es : Array DictEntry} {n : Nat} {L : List (Str × Addr)} (X : K.In h) (G : h.Ns mainGlobals mg) (e : PySem.W.nsIn K mainGlobals x = some (some (.ref a))) (l : K.lookup a = some ⟨.type "dict", none, .dict es n, #[]⟩)
    (lit : PySem.W.KeysLit w.params es.toList) (low : (a == sysModules) = false) (hL : es.toList.map entB = L.map some) : Tab w K mg x a (tabG L) := by
  refine ⟨PySem.W.mg_of X G e, ⟨es, n, l, lit, low⟩, fun z => ?_⟩
  obtain ⟨f1, f2⟩ := ents_find (z := z) hL
  unfold PySem.W.nsIn
  rw [l]
  simp only
  rw [← f1]
  cases hf : es.toList.find? (·.key.isStr z) with
  | some e => rfl
  | none => simp only [f2]; rfl
/-! the errors -/
theorem exm_mk {C S : Addr} {b : Bool} (h1 : PySem.W.subIn K (.ref S) (.type "BaseException") = some true) (h2 : PySem.W.isClsIn K S = true) (h3 : PySem.W.typeIn K (.ref S) = some (.type "type")) (h4 : PySem.W.subIn K (.ref C) (.ref S) = some b) :
    PySem.W.exmOne K (.ref C) (.ref S) = some b := by
  have e1 : (PySem.W.subIn K (.ref S) (.type "BaseException") == some true) = true := by rw [h1] <;> rfl
  have e2 : ((PySem.W.clsIn K S).isSome && PySem.W.typeIn K (.ref S) == some (.type "type")) = true := by
    have h2' : (PySem.W.clsIn K S).isSome = true := h2
    rw [h2', h3] <;> rfl
  show (if (PySem.W.subIn K (.ref S) (.type "BaseException") == some true) = true then (if ((PySem.W.clsIn K S).isSome && PySem.W.typeIn K (.ref S) == some (.type "type")) = true then PySem.W.subIn K (.ref C) (.ref S) else none) else none) = some b
  rw [if_pos e1, if_pos e2]
  exact h4
theorem errC_mk {x : Str} {C fI N : Addr} {nm q : Str} {bs bm : List Value} {sn : List Str} {sub : List Value} {ab : Bool} {col : Option Bool} {dd : Option Addr} {m0 m1 m2 m3 m5 : Option Value} (X : K.In h) (G : h.Ns mainGlobals mg)
    (aC : PySem.W.nsIn K mainGlobals x = some (some (.ref C))) (xL : K.lookup C = some (excClassObj nm q C N bs bm true sn sub ab col dd m0 m1 m2 m3 m5 "ValueError.__new__")) (bmB : PySem.HandSPX.refsVE bm = true)
    (sa : PySem.W.findIn K (.ref C) "__setattr__" = some (some (.builtin "object.__setattr__"))) (ga : PySem.W.findIn K (.ref C) "__getattribute__" = some (some (.builtin "BaseException.__getattribute__"))) (gg : PySem.W.findIn K (.ref C) "__getattr__" = some none) (nb : PySem.W.findIn K (.ref C) "what" = some none)
    (iC : PySem.W.findIn K (.ref C) "__init__" = some (some (.ref fI))) (kC : PySem.W.keepIn K (.ref C) = true) (eC : PySem.W.subIn K (.ref C) (.type "BaseException") = some true) (tC : PySem.W.typeIn K (.ref C) = some (.type "type")) (hC : PySem.W.hasDictIn K C = true) : ErrC K mg fI x C :=
  ⟨PySem.W.mg_of X G aC, ⟨⟨nm, q, N, bs, bm, sn, sub, ab, col, dd, m0, m1, m2, m3, m5, xL, bmB⟩, sa, eC, tC, kC⟩, nb, iC, ⟨ga, gg, eC, hC⟩⟩
end
/-! ## the root's __init__ -/
def initSt : Stmt := match top 1 with
  | .ClassDef _ _ _ (s :: _) _ _ _ _ _ _ _ => s
  | s => s
theorem sc_init : FnScope ["self", "what"] ["self", "what"] (defScope initSt) := ⟨rfl, rfl, rfl, by decide +kernel, rfl, by decide +kernel, by decide +kernel⟩
theorem init_mk {P : Program} {w : World} {K : PySem.W.Frag} {mg : Str → Option Value} {base : Heap} {fI : Addr} {fd : FuncData} (F : Fun K "__init__" "Refused.__init__" initSt fI fd) (ht : PySem.W.typeIn K (.ref fI) = some (.type "function")) : InitF P w K mg base fI := by
  refine has_init F sc_init (fun _ _ _ _ _ _ us hl => match us, hl with | [_, _], _ => rfl) ht fun cdv A outer s H E => ?_
  exact pss_one (ps_ost (pv 0) (pv 1))
end Mine

/-! ### F2 -/
namespace Mine
open PySem PySem.Spec L2
section
variable {P : Program} {w : World} {K : PySem.W.Frag} {mg : Str → Option Value} {base : Heap}
/-- the defs -/
structure Own (K : PySem.W.Frag) (mg : Str → Option Value) : Prop where
  o0 : OwnF K mg "is_number" s_is_number
  o1 : OwnF K mg "is_count" s_is_count
  o2 : OwnF K mg "is_entry" s_is_entry
  o3 : OwnF K mg "check_run" s_check_run
  o4 : OwnF K mg "cut_up" s_cut_up
  o5 : OwnF K mg "steps_within" s_steps_within
  o6 : OwnF K mg "hills" s_hills
  o7 : OwnF K mg "_law_pool" s_law_pool
  o8 : OwnF K mg "_law_take" s_law_take
  o9 : OwnF K mg "_law_one" s_law_one
  o10 : OwnF K mg "_law_run" s_law_run
  o11 : OwnF K mg "_law_hills" s_law_hills
  o12 : OwnF K mg "_law_told" s_law_told
  o13 : OwnF K mg "_law_shape_right" s_law_shape_right
/-- the errors -/
structure Errs (K : PySem.W.Frag) (mg : Str → Option Value) (fI cRefused cBadRow : Addr) : Prop where
  eRefused : ErrC K mg fI "Refused" cRefused
  eBadRow : ErrC K mg fI "BadRow" cBadRow
  xBadRow_BadRow : PySem.W.exmOne K (.ref cBadRow) (.ref cBadRow) = some true
theorem fin_mk {P : Program} {w : World} {K : PySem.W.Frag} {h : Heap} {mg : Str → Option Value} {fa f3 fI cRefused cBadRow : Addr} {fdI : FuncData} (X : K.In h) (G : h.Ns mainGlobals mg) (hfa : mg "law" = some (.ref fa)) {oc3 : Value} {od3 an3 : Option Addr} {sl3 : Array (Option Value)} {kV3 dc3 pm3 cd3 ct3 : Value}
    (a3 : PySem.W.nsIn K mainGlobals "law" = some (some (.ref f3))) (l3 : K.lookup f3 = some ⟨oc3, od3, .func (PySem.W.fnOf "law" "law" (defArgs s_law) (defBody s_law) (defScope s_law) .none kV3 dc3 pm3 an3 cd3 ct3), sl3⟩) (c3 : PySem.W.codeIn K cd3 "law" = true) (k3 : PySem.W.keepIn K (.ref f3) = true)
    (B : Bl mg) (FI : Fun K "__init__" "Refused.__init__" initSt fI fdI) (tI : PySem.W.typeIn K (.ref fI) = some (.type "function")) (Er : Errs K mg fI cRefused cBadRow) (OP : Own K mg) :
    ∃ fd : FuncData, (∀ (s : Shared) (v : Value), BindsTo s fd ⟨[v], []⟩ [("script", v)]) ∧ ∀ base : Heap, K.In base → base.Ns mainGlobals mg → FnOk P w K mg base CX0 7 fa fd ["script"] (spLaw K) := by
  have e := hfa.symm.trans (PySem.W.mg_of X G a3)
  cases e
  exact ⟨_, fun s v => .of_eq rfl, fun base _ _ =>
    have hI : InitF P w K mg base fI := init_mk FI tI
    have p1 := has_is_number (P := P) (w := w) (base := base) OP.o0 B
    have p2 := has_is_count OP.o1 p1
    have p3 := has_is_entry OP.o2 B p2
    have p4 := has_check_run OP.o3 B hI Er.eBadRow p3
    have p5 := has_cut_up (P := P) (w := w) (base := base) OP.o4 B
    have p6 := has_steps_within (P := P) (w := w) (base := base) OP.o5 B
    have p7 := has_hills OP.o6 B p4 p5 p6
    have m1 := has_pool (P := P) (w := w) (base := base) OP.o7 B
    have m2 := has_take (P := P) (w := w) (base := base) OP.o8 B
    have m3 := has_one OP.o9 B m2
    have m4 := has_law_run OP.o10 B m2 m3
    have m5 := has_law_hills (P := P) (w := w) (base := base) OP.o11 B
    have m6 := has_law_told OP.o12 Er.eRefused Er.eBadRow ⟨Er.xBadRow_BadRow⟩ p7
    have m7 := has_law_shape_right (P := P) (w := w) (base := base) OP.o13 B
    ok_law (fun_mk (st := s_law) l3 c3 k3) B m1 m2 m3 m4 m6 m5 m7⟩
end
end Mine
namespace Mine
open PySem PySem.Spec L2
/-- a class that stands in an except clause -/
structure ClsB (K : PySem.W.Frag) (S : Addr) : Prop where
  b : PySem.W.subIn K (.ref S) (.type "BaseException") = some true
  i : PySem.W.isClsIn K S = true
  t : PySem.W.typeIn K (.ref S) = some (.type "type")
theorem ClsB.exm {K : PySem.W.Frag} {C S : Addr} {b : Bool} (h : ClsB K S) (e : PySem.W.subIn K (.ref C) (.ref S) = some b) : PySem.W.exmOne K (.ref C) (.ref S) = some b := exm_mk h.b h.i h.t e
theorem errs_mk {K : PySem.W.Frag} {mg : Str → Option Value} {fI cRefused cBadRow : Addr} (eRefused : ErrC K mg fI "Refused" cRefused) (eBadRow : ErrC K mg fI "BadRow" cBadRow) (hBadRow : ClsB K cBadRow) (s0 : PySem.W.subIn K (.ref cBadRow) (.ref cBadRow) = some true) : Errs K mg fI cRefused cBadRow :=
  ⟨eRefused, eBadRow, hBadRow.exm s0⟩
end Mine

/-! ### E1 -/
open PySem PySem.W PyProof.Rows
set_option maxRecDepth 100000 in
set_option maxHeartbeats 0 in
theorem PySem.Challenge.cw_hillrooms_k11_hills_of_runs_holds : PySem.Challenge.rw_hillrooms_k11_hills_of_runs.Holds := by
  w_on; o_law; k_head; (case hw => w_witness2)
  k_fill
  refine L2.walk_of (l := PySem.Challenge.rw_hillrooms_k11_hills_of_runs) (n := 63) (k := 7) (x := "script") (CX := fun _ => L2.CX0) (sp := fun w => Mine.spLaw _) rfl (by decide) rfl ⟨rfl, by decide, by decide⟩ (fun w h Y => PySem.W.kIn_of Y) ?F (fun _ _ a ns hl _ hS => ⟨a, ns, rfl, hS, hl, fun _ => rfl⟩) (fun _ _ _ _ _ z => z)
  case F =>
    intro w mg fa h KX G hmg
    have B : Mine.Bl mg := by
      refine' ⟨PySem.W.mg_none_of KX G ?z0, PySem.W.mg_none_of KX G ?z1, PySem.W.mg_none_of KX G ?z2, PySem.W.mg_none_of KX G ?z3, PySem.W.mg_none_of KX G ?z4, PySem.W.mg_none_of KX G ?z5, PySem.W.mg_none_of KX G ?z6, PySem.W.mg_none_of KX G ?z7, PySem.W.mg_none_of KX G ?z8, PySem.W.mg_none_of KX G ?z9, PySem.W.mg_none_of KX G ?z10, PySem.W.mg_none_of KX G ?z11, PySem.W.mg_none_of KX G ?z12⟩
      (case z0 => k_is); (case z1 => k_is); (case z2 => k_is); (case z3 => k_is); (case z4 => k_is); (case z5 => k_is); (case z6 => k_is); (case z7 => k_is); (case z8 => k_is); (case z9 => k_is); (case z10 => k_is); (case z11 => k_is); (case z12 => k_is)
    have OP : Mine.Own (L2.KOf KX) mg := by
      dsimp only [L2.KOf]
      refine' ⟨Mine.ownF_mk KX G ?a0 ?l0 ?c0 ?k0, Mine.ownF_mk KX G ?a1 ?l1 ?c1 ?k1, Mine.ownF_mk KX G ?a2 ?l2 ?c2 ?k2, Mine.ownF_mk KX G ?a3 ?l3 ?c3 ?k3, Mine.ownF_mk KX G ?a4 ?l4 ?c4 ?k4, Mine.ownF_mk KX G ?a5 ?l5 ?c5 ?k5, Mine.ownF_mk KX G ?a6 ?l6 ?c6 ?k6, Mine.ownF_mk KX G ?a7 ?l7 ?c7 ?k7, Mine.ownF_mk KX G ?a8 ?l8 ?c8 ?k8, Mine.ownF_mk KX G ?a9 ?l9 ?c9 ?k9, Mine.ownF_mk KX G ?a10 ?l10 ?c10 ?k10, Mine.ownF_mk KX G ?a11 ?l11 ?c11 ?k11, Mine.ownF_mk KX G ?a12 ?l12 ?c12 ?k12, Mine.ownF_mk KX G ?a13 ?l13 ?c13 ?k13⟩
      (case a0 => k_is); (case l0 => k_is); (case c0 => k_is); (case k0 => k_is)
      (case a1 => k_is); (case l1 => k_is); (case c1 => k_is); (case k1 => k_is)
      (case a2 => k_is); (case l2 => k_is); (case c2 => k_is); (case k2 => k_is)
      (case a3 => k_is); (case l3 => k_is); (case c3 => k_is); (case k3 => k_is)
      (case a4 => k_is); (case l4 => k_is); (case c4 => k_is); (case k4 => k_is)
      (case a5 => k_is); (case l5 => k_is); (case c5 => k_is); (case k5 => k_is)
      (case a6 => k_is); (case l6 => k_is); (case c6 => k_is); (case k6 => k_is)
      (case a7 => k_is); (case l7 => k_is); (case c7 => k_is); (case k7 => k_is)
      (case a8 => k_is); (case l8 => k_is); (case c8 => k_is); (case k8 => k_is)
      (case a9 => k_is); (case l9 => k_is); (case c9 => k_is); (case k9 => k_is)
      (case a10 => k_is); (case l10 => k_is); (case c10 => k_is); (case k10 => k_is)
      (case a11 => k_is); (case l11 => k_is); (case c11 => k_is); (case k11 => k_is)
      (case a12 => k_is); (case l12 => k_is); (case c12 => k_is); (case k12 => k_is)
      (case a13 => k_is); (case l13 => k_is); (case c13 => k_is); (case k13 => k_is)
    obtain ⟨fI, cRefused, cBadRow, Er, fdI, FI, tI⟩ : ∃ (fI cRefused cBadRow : Addr), Mine.Errs (L2.KOf KX) mg fI cRefused cBadRow ∧ ∃ fdI : FuncData, L2.Fun (L2.KOf KX) "__init__" "Refused.__init__" Mine.initSt fI fdI ∧ PySem.W.typeIn (L2.KOf KX) (.ref fI) = some (.type "function") := by
      dsimp only [L2.KOf]
      refine' ⟨_, _, _, Mine.errs_mk (Mine.errC_mk KX G ?aC0 ?xL0 ?bm0 ?sa0 ?ga0 ?gg0 ?nb0 ?iC0 ?kC0 ?eC0 ?tC0 ?hC0) (Mine.errC_mk KX G ?aC1 ?xL1 ?bm1 ?sa1 ?ga1 ?gg1 ?nb1 ?iC1 ?kC1 ?eC1 ?tC1 ?hC1) ⟨?b0, ?i0, ?t0⟩ ?s0, _, L2.fun_mk (st := Mine.initSt) ?lI ?cI ?kI, ?tI⟩
      (case aC0 => k_is); (case xL0 => k_is); (case bm0 => decide +kernel); (case sa0 => k_is); (case ga0 => k_is); (case gg0 => k_is); (case nb0 => k_is); (case iC0 => k_is); (case kC0 => k_is); (case eC0 => k_is); (case tC0 => k_is); (case hC0 => k_is)
      (case aC1 => k_is); (case xL1 => k_is); (case bm1 => decide +kernel); (case sa1 => k_is); (case ga1 => k_is); (case gg1 => k_is); (case nb1 => k_is); (case iC1 => k_is); (case kC1 => k_is); (case eC1 => k_is); (case tC1 => k_is); (case hC1 => k_is)
      (case b0 => k_is); (case i0 => k_is); (case t0 => k_is)
      (case s0 => first | k_is | rfl | decide +kernel)
      (case lI => k_is); (case cI => k_is); (case kI => k_is); (case tI => k_is)
    refine' Mine.fin_mk KX G hmg ?a ?l ?c ?k B FI tI Er OP
    (case a => k_is); (case l => k_is); (case c => k_is); (case k => k_is)
