import PyProof.Rows.All
import Wide.All
import OpenK.AllK
import Wide.FinOn
import HandS.ForMost
import HandS.Codes
import HandS.Flow
import HandS.Style
import HandS.StrMore
import HandS.IsInst
import HandS.TupAny
import HandS.EndBits
import HandS.Exc
import HandS.ExcInit
import HandS.ExcField
import HandS.WordsExc
import HandS.ExcIs
import KE.KIsAll
import KE.KTryMore
import HandS.SortKw
import KE.KMinBuiltin
import HandS.WideBits
import HandS.Wide
import HandS.Walk
import HandS.Small
import HandS.AnyAll
import HandS.Conv
import HandS.TupMul
import HandS.Property
import HandS.WrittenGet
import HandS.NestedK
import KE.KDictDisplayH
import HandS.Dict
import HandS.NoneIn
import PyProof.DictTruth
import HandS.Deep
import HandS.EndTab
import PySem.Challenge.RW_digitwise_k41_linear_limits
set_option Elab.async false
set_option linter.all false
set_option maxRecDepth 100000
set_option maxHeartbeats 4000000
namespace Dw
open PySem PySem.Spec PyProof.Rows L2 SX

theorem hu64 {A : Around} {k : Nat} (hr : Room k A) : A.units + 64 < cLine := hr.units
section
variable {X : Cx} {k j : Nat} {x : Str} {sp : Sp} {dvs : List V} {p pos : Pos}
theorem pe_c0 (c : C8.Cal X.prog X.w X.K X.mg X.base k x sp dvs) (hr : Room j X.A) (hk : k ≤ j) (hg : Gl X x)
    (hdb : (x == ("__debug__" : Str)) = false := by decide) :
    PE X (.Call (.Name x p) [] [] pos) (tCall sp dvs C8.E0 tNil) := by
  obtain ⟨f, fd, ps, ds, F, hm, kp, b, d⟩ := c.ex
  exact pe_call0 F (hr.mono hk) hg hm kp b d C8.pass0 hdb
end
theorem same_upd {H : Hp} {p : Addr} {o : HO} (h : H p = none) : Same H (upd H p o) := fun b x e => by
  rw [upd_ne (ne_of_none e h)]
  exact e
/-- all but what stands at p is as it was -/
def But (p : Addr) (H H' : Hp) : Prop := ∀ b o, b ≠ p → H b = some o → H' b = some o
theorem But.refl (p : Addr) (H : Hp) : But p H H := fun _ _ _ h => h
theorem But.trans {p : Addr} {H H1 H2 : Hp} (a : But p H H1) (b : But p H1 H2) : But p H H2 := fun c o n h => b c o n (a c o n h)
theorem But.of {p : Addr} {H H' : Hp} (a : Same H H') : But p H H' := fun b o _ h => a b o h
theorem But.upd {p : Addr} {H : Hp} {o : HO} : But p H (upd H p o) := fun b _ n h => by
  rw [upd_ne n]
  exact h
theorem But.list {p a : Addr} {H H' : Hp} {K : PySem.W.Frag} {xs : List V} (e : But p H H') (n : a ≠ p) (h : SqL K H a xs) : SqL K H' a xs := by
  rcases h with (h | ⟨o, h⟩) | h
  · exact .inl (.inl (e _ _ n h))
  · exact .inl (.inr ⟨o, e _ _ n h⟩)
  · exact .inr h
/-- the pool of drawn numbers at p, over the copied script at q -/
def Pool (H : Hp) (p q : Addr) (ns : List Int) : Prop := p ≠ q ∧ H q = some (.lst (ns.map V.int)) ∧ ∃ a k : Int, H p = some (.lst [.int a, .ref q, .int k]) ∧ 0 ≤ a ∧ -1 ≤ k
theorem Pool.same {H H' : Hp} {p q : Addr} {ns : List Int} (h : Pool H p q ns) (e : Same H H') : Pool H' p q ns := by
  obtain ⟨n, hq, a, k, hp, h0, h1⟩ := h
  exact ⟨n, e _ _ hq, a, k, e _ _ hp, h0, h1⟩

example : True := by trivial
end Dw
namespace Dw
open PySem PySem.Spec PyProof.Rows L2 SX
section
variable {CX : CXT} {P : Program} {w : World} {K : PySem.W.Frag} {mg : Str → Option Value} {base : Heap} {N : List Str} {qual : Str} {scope : Scope} {f : Addr} {cd : Value} {A : Around} {outer : List Env} {s : Shared} {H : Hp} {E : XK}
theorem cxOf_K : (cxOf CX P w K mg base N qual scope f cd A outer s H E).K = K := rfl
theorem cxOf_w : (cxOf CX P w K mg base N qual scope f cd A outer s H E).w = w := rfl
theorem cxOf_prog : (cxOf CX P w K mg base N qual scope f cd A outer s H E).prog = P := rfl
end
end Dw
namespace Dw
open PySem PySem.Spec PyProof.Rows L2 SX
theorem at_ints {ns : List Int} {k : Int} (h0 : 0 ≤ k) (h1 : k < (ns.length : Int)) : atI (ns.map V.int) k = some (.int (ns.getD k.toNat 0)) := by
  obtain ⟨n, rfl⟩ : ∃ n : Nat, k = (n : Int) := ⟨k.toNat, by omega⟩
  have h2 : n < ns.length := by omega
  refine atI_nat ?_
  rw [List.getElem?_map, Int.toNat_natCast, List.getD_eq_getElem?_getD, List.getElem?_eq_getElem h2]
  rfl
end Dw
namespace Dw
open PySem PySem.Spec PyProof.Rows L2 SX
/-- a text times an int -/
theorem op_mul_str {X : Cx} : OpR X (binaryOp .Mult) (fun x y H Q => ∃ (z : Str) (k : Int), x = .str z ∧ y = .int k ∧ MulOk z k ∧ Q (.str (Txt.mul z k)) H) := by
  intro pins s σ H x y v u Q I rx ry h
  obtain ⟨z, k, rfl, rfl, hz, q⟩ := h
  obtain ⟨t, rfl⟩ := rx
  obtain ⟨t', rfl⟩ := ry
  exact SB.mul hz (fun t' tk => ⟨.str (Txt.mul z k), H, I.tok _, ⟨_, rfl⟩, q⟩)
def rMulS : R2 := fun x y H Q => ∃ (z : Str) (k : Int), x = .str z ∧ y = .int k ∧ MulOk z k ∧ Q (.str (Txt.mul z k)) H
theorem op_mulS {X : Cx} : OpR X (binaryOp .Mult) rMulS := op_mul_str
/-! loops and comprehensions, folded -/
def ForJ (J : It) (g : TG) (tb : TS) (D : Ends) (σ : L2.St) (H : Hp) : Prop := ∃ W : Nat → Nat → L2.St → Hp → Prop, (∃ m, W 0 m σ H) ∧ ∀ i m σ H, W i m σ H →
  (J.stop i H ∧ D.nx σ H) ∨ (J.go i H ∧ ∃ N : L2.St → Hp → Prop, (∀ σ' H', N σ' H' → ∃ m', m' < m ∧ W (i + 1) m' σ' H') ∧ ∀ x H', J.yld i H x H' → g x σ H' fun σ2 H2 => tb { D with nx := N, ct := N, bk := D.nx } σ2 H2)
theorem tFor_eq (wi : TI) (g : TG) (tb : TS) (D : Ends) (σ : L2.St) (H : Hp) : tFor wi g tb D σ H = wi σ H fun J H1 => ForJ J g tb D σ H1 := rfl
def LcJ (J : It) (g : TG) (tt : TT) (te : TE) (vs : List Nat) (D : Addr) (σ : L2.St) (H1 : Hp) (Qd : Hp → Prop) : Prop := ∃ W : Nat → Nat → Hp → Prop, (∃ m, W 0 m (upd H1 D (.lst []))) ∧ ∀ i m H, W i m H →
  (J.stop i H ∧ Qd H) ∨ (J.go i H ∧ ∃ Nx : Hp → Prop, (∀ H', Nx H' → ∃ m', m' < m ∧ W (i + 1) m' H') ∧ ∀ x H', J.yld i H x H' → g x (wipe σ vs) H' fun σ2 H2 => wipe σ2 vs = wipe σ vs ∧ tt σ2 H2 fun b H3 =>
    if b = true then te σ2 H3 fun y H4 => ∃ acc, H4 D = some (.lst acc) ∧ acc.length < sizeLine ∧ Nx (upd H4 D (.lst (acc ++ [y]))) else Nx H3)
theorem tLc_eq (wi : TI) (g : TG) (tt : TT) (te : TE) (vs : List Nat) (σ : L2.St) (H : Hp) (Q : VK) : tLc wi g tt te vs σ H Q = wi σ H fun J H1 => ∀ D, H1 D = none → LcJ J g tt te vs D σ H1 fun H2 => Q (.ref D) H2 := rfl
/-! texts as lists of codes -/
def cs (s : String) : List Nat := (Str.ofString s).cps.toList
theorem ofStr_S (s : String) : Str.ofString s = S (cs s) := (S_tl _).symm
theorem one_S (c : Nat) : (⟨#[c]⟩ : Str) = S [c] := rfl
theorem S_iff (a b : List Nat) : (S a = S b) = (a = b) := propext ⟨S_inj, fun e => by rw [e]⟩
theorem S_cps (a : List Nat) : (S a).cps.toList = a := rfl
theorem len_S (a : List Nat) : (S a).length = a.length := S_len a
theorem at_mem {α : Type} {xs : List α} {i : Int} (h0 : 0 ≤ i) (h1 : i < (xs.length : Int)) : ∃ v, atI xs i = some v ∧ v ∈ xs := by
  obtain ⟨n, rfl⟩ : ∃ n : Nat, i = (n : Int) := ⟨i.toNat, by omega⟩
  have h2 : n < xs.length := by omega
  exact ⟨xs[n], atI_nat (List.getElem?_eq_getElem h2), List.getElem_mem h2⟩
def LOW : List Nat := cs "abcdefghijklmnopqrstuvwxyz"
def UPP : List Nat := cs "ABCDEFGHIJKLMNOPQRSTUVWXYZ"
def DIG : List Nat := cs "0123456789"
def RESW : List String := ["all", "def", "pow", "some", "told"]
def RES : List (List Nat) := RESW.map cs
def SGNW : List String := ["<=>", "=>", "->", "<=", ">=", "!=", "=", "<", ">", "+", "-", "*", "~", "&", "|", "(", ")", "[", "]", "{", "}", ",", ":", ";"]
def SGN : List (List Nat) := SGNW.map cs
def vS (l : List Nat) : V := .str (S l)
/-- a good name, a good word -/
structure GName (l : List Nat) : Prop where
  hd : ∃ c r, l = c :: r ∧ c ∈ LOW
  all : ∀ c ∈ l, c ∈ LOW ++ DIG
  le : l.length ≤ 12
  nr : l ∉ RES
structure GWord (l : List Nat) : Prop where
  hd : ∃ c r, l = c :: r ∧ c ∈ UPP
  all : ∀ c ∈ l, c ∈ UPP ++ DIG
  le : l.length ≤ 12
def NMS : List String := ["x", "y", "z", "alls", "v0", "v1", "po", "defx"]
instance (l : List Nat) : Decidable (∃ c r, l = c :: r ∧ c ∈ LOW) := match l with
  | [] => isFalse (by rintro ⟨_, _, h, _⟩; cases h)
  | c :: r => if h : c ∈ LOW then isTrue ⟨c, r, rfl, h⟩ else isFalse (by rintro ⟨_, _, e, h'⟩; cases e; exact h h')
theorem nms_ok : ∀ s ∈ NMS, (∃ c r, cs s = c :: r ∧ c ∈ LOW) ∧ (∀ c ∈ cs s, c ∈ LOW ++ DIG) ∧ (cs s).length ≤ 12 := by decide +kernel
theorem low_len : LOW.length = 26 := by decide +kernel
theorem lowdig_len : (LOW ++ DIG).length = 36 := by decide +kernel
theorem upp_len : UPP.length = 26 := by decide +kernel
theorem uppdig_len : (UPP ++ DIG).length = 36 := by decide +kernel
theorem res_len : ∀ l ∈ RES, l.length ≤ 4 := by decide +kernel
theorem res0 : ∀ l ∈ RES, l ++ cs "0" ∉ RES := by decide +kernel
/-- a drawn name is made good -/
theorem gname_of {l : List Nat} (hd : ∃ c r, l = c :: r ∧ c ∈ LOW) (all : ∀ c ∈ l, c ∈ LOW ++ DIG) (le : l.length ≤ 12) : (l ∈ RES → GName (l ++ cs "0")) ∧ (l ∉ RES → GName l) := by
  refine ⟨fun h => ⟨?_, ?_, ?_, res0 l h⟩, fun h => ⟨hd, all, le, h⟩⟩
  · obtain ⟨c, r, rfl, hc⟩ := hd
    exact ⟨c, r ++ cs "0", rfl, hc⟩
  · intro c hc
    rcases List.mem_append.mp hc with h1 | h1
    · exact all c h1
    · have : ∀ c ∈ cs "0", c ∈ LOW ++ DIG := by decide +kernel
      exact this c h1
  · rw [List.length_append]
    have := res_len l h
    have : (cs "0").length = 1 := by decide +kernel
    omega
end Dw
namespace Dw
open PySem PySem.Spec PyProof.Rows L2 SX
theorem eqV_S (a b : List Nat) : eqV (.str (S a)) (.str (S b)) = decide (a = b) := by
  show (S a == S b) = _
  exact S_beq_eq
theorem inV_S (l : List Nat) : ∀ L : List (List Nat), inV (.str (S l)) (L.map vS) = decide (l ∈ L)
  | [] => by simp [inV]
  | a :: L => by
    have ih := inV_S l L
    unfold inV at ih ⊢
    rw [List.map_cons, List.any_cons, ih]
    show (eqV (.str (S a)) (.str (S l)) || _) = _
    rw [eqV_S]
    by_cases h : a = l
    · subst h; simp
    · have h' : ¬ l = a := fun e => h e.symm
      simp [h, h']
theorem flat_S : ∀ L : List (List Nat), (L.map vS).all flatV = true
  | [] => rfl
  | a :: L => by
    rw [List.map_cons, List.all_cons, flat_S L]
    rfl
theorem small {n : Nat} (h : n ≤ 10000) : n ≤ sizeLine := Nat.le_trans h (by decide)
theorem smallt {n : Nat} (h : n ≤ 10000) : n < sizeLine := Nat.lt_of_le_of_lt h (by decide)
end Dw
namespace Dw
open PySem PySem.Spec PyProof.Rows L2 SX
def SPS : List String := ["", " ", "\n", "  \n ", " ", ""]
theorem sps_ok : ∀ s ∈ SPS, (∀ c ∈ cs s, c = 32 ∨ c = 10) ∧ (cs s).length ≤ 4 := by decide +kernel
def pfx (s t : List Nat) : Bool := t.take s.length == s
def isAN (c : Nat) : Bool := Unicode.isAlnum c
/-- the two pieces need a space between them -/
def joins (a b : List Nat) : Bool := (isAN (a.getLast?.getD 0) && isAN (b.head?.getD 0)) || SGN.any fun s => decide (a.length < s.length) && pfx a s && pfx s (a ++ b)
end Dw
namespace Dw
open PySem PySem.Spec PyProof.Rows L2 SX
theorem pfx_iff {s t : List Nat} : pfx s t = true ↔ ∃ r, t = s ++ r := by
  unfold pfx
  rw [beq_iff_eq]
  constructor
  · intro h
    exact ⟨t.drop s.length, by have := List.take_append_drop s.length t; rw [h] at this; exact this.symm⟩
  · rintro ⟨r, rfl⟩
    simp
theorem pfx_le {s t : List Nat} (h : pfx s t = true) : s.length ≤ t.length := by
  obtain ⟨r, rfl⟩ := pfx_iff.mp h
  rw [List.length_append]; omega
theorem subAt_S (a b : List Nat) (i : Nat) : Builtin.Str.subAt (S a) (S b) i = pfx b (a.drop i) := by
  rw [StrLaws.subAt_eq]
  show ((a.drop i).take (S b).length == b) = _
  rw [S_len]
  rfl
theorem sw_S (a b : List Nat) : Txt.startswith (S a) (S b) = pfx b a := by
  unfold Txt.startswith
  rw [subAt_S, S_len, S_len, List.drop_zero]
  cases h : pfx b a
  · simp
  · have := pfx_le h
    simp [this]
theorem sw3_S (a b : List Nat) (i : Nat) (hi : i ≤ a.length) : Txt.startswith3 (S a) (S b) (i : Int) = pfx b (a.drop i) := by
  unfold Txt.startswith3
  have e : fromIndex (S a).length (i : Int) = i := by
    unfold fromIndex
    rw [if_neg (by omega)]
    omega
  rw [e, subAt_S, S_len, S_len]
  cases h : pfx b (a.drop i)
  · simp
  · have := pfx_le h
    rw [List.length_drop] at this
    have h2 : i + b.length ≤ a.length := by omega
    simp [h2]
theorem an_S (c : Nat) : Txt.isalnum (S [c]) = isAN c := by
  unfold Txt.isalnum isAN
  show (decide ((S [c]).length > 0) && (#[c] : Array Nat).all Unicode.isAlnum) = _
  simp [Str.length]
end Dw
namespace Dw
theorem sgn_len : ∀ s ∈ SGN, s.length ≤ 3 := by decide +kernel
end Dw
namespace Dw
open PySem PySem.Spec PyProof.Rows L2 SX
abbrev TRow := List Nat × List Nat
def flat (rows : List TRow) : List Nat := rows.flatMap fun x => x.1 ++ x.2
def places (n : Nat) : List TRow → List V
  | [] => []
  | x :: r => .int (n : Nat) :: places (n + x.1.length + x.2.length) r
theorem flat_snoc (rows : List TRow) (x : TRow) : flat (rows ++ [x]) = flat rows ++ x.1 ++ x.2 := by
  simp [flat]
theorem flat_cons (rows : List TRow) (x : TRow) : flat (x :: rows) = x.1 ++ (x.2 ++ flat rows) := by
  simp [flat]
theorem places_snoc : ∀ (n : Nat) (rows : List TRow) (x : TRow), places n (rows ++ [x]) = places n rows ++ [.int ((n + (flat rows).length : Nat) : Int)]
  | n, [], x => by simp [places, flat]
  | n, y :: r, x => by
    show V.int _ :: places (n + y.1.length + y.2.length) (r ++ [x]) = _
    rw [places_snoc]
    show _ = V.int _ :: (places (n + y.1.length + y.2.length) r ++ _)
    rw [flat_cons, List.length_append, List.length_append]
    rw [show n + y.1.length + y.2.length + (flat r).length = n + (y.1.length + (y.2.length + (flat r).length)) by omega]
theorem places_len : ∀ (n : Nat) (rows : List TRow), (places n rows).length = rows.length
  | _, [] => rfl
  | n, y :: r => by
    show (places _ r).length + 1 = r.length + 1
    rw [places_len]
def Blank (l : List Nat) : Prop := (∀ c ∈ l, c = 32 ∨ c = 10) ∧ l.length ≤ 4
/-- where two parts join, a space stands between them -/
def Sepd (rows : List TRow) : Prop := ∀ (k : Nat) (x y : TRow), rows[k]? = some x → rows[k + 1]? = some y → joins x.1 y.1 = true → x.2 ≠ []
theorem flat_len : ∀ (rows : List TRow), (∀ x ∈ rows, x.1.length ≤ 100 ∧ x.2.length ≤ 4) → (flat rows).length ≤ 104 * rows.length
  | [], _ => by simp [flat]
  | x :: r, h => by
    have ih := flat_len r fun y hy => h y (List.mem_cons_of_mem _ hy)
    have h1 := h x List.mem_cons_self
    rw [flat_cons, List.length_append, List.length_append, List.length_cons]
    omega
theorem snoc_of {l : List Nat} (h : l ≠ []) : ∃ (a' : List Nat) (x : Nat), l = a' ++ [x] := ⟨l.dropLast, l.getLast h, (List.dropLast_concat_getLast h).symm⟩
theorem cons_of {l : List Nat} (h : l ≠ []) : ∃ (y : Nat) (b' : List Nat), l = y :: b' := by
  cases l with
  | nil => exact absurd rfl h
  | cons y r => exact ⟨y, r, rfl⟩
theorem at_map {α : Type} {f : α → V} {L : List α} {i : Nat} {a : α} (h : L[i]? = some a) : atI (L.map f) (i : Int) = some (f a) := atI_nat (by rw [List.getElem?_map, h]; rfl)
end Dw
namespace Dw
open PySem PySem.Spec PyProof.Rows L2 SX
theorem Pool.ne {H : Hp} {p q t : Addr} {ns : List Int} (h : Pool H p q ns) (ht : H t = none) : t ≠ p := by
  obtain ⟨_, _, _, _, hp, _⟩ := h
  exact (ne_of_none hp ht).symm
theorem But.free {H H1 : Hp} {p q t : Addr} {ns : List Int} (hB : But p H H1) (hP : Pool H1 p q ns) (ht : H1 t = none) : H t = none := by
  cases e : H t with
  | none => rfl
  | some o =>
    have := hB t o (hP.ne ht) e
    rw [ht] at this
    cases this
end Dw
namespace Dw
open PySem PySem.Spec PyProof.Rows L2 SX
theorem tyL {K : PySem.W.Frag} {H : Hp} {a : Addr} {xs : List V} (h : H a = some (.lst xs)) : tyV K "list" (.ref a) H := .inl ⟨rfl, _, SqL.of h⟩
theorem tyV_str {K : PySem.W.Frag} {H : Hp} {z : Str} : tyV K "str" (.str z) H = True := propext ⟨fun _ => trivial, fun _ => rfl⟩
theorem But.new {p t : Addr} {H H1 : Hp} {o : HO} (hB : But p H H1) (ht : H t = none) : But p H (L2.upd H1 t o) := fun b u n h => by
  rw [upd_ne (ne_of_none h ht)]
  exact hB b u n h
theorem Pool.set {p q t : Addr} {H : Hp} {ns : List Int} {o : HO} (h : Pool H p q ns) (h1 : t ≠ p) (h2 : t ≠ q) : Pool (L2.upd H t o) p q ns := by
  obtain ⟨n, hq, a, k, hp, h0, hk⟩ := h
  exact ⟨n, by rw [upd_ne h2.symm]; exact hq, a, k, by rw [upd_ne h1.symm]; exact hp, h0, hk⟩
theorem Pool.neq {H : Hp} {p q t : Addr} {ns : List Int} (h : Pool H p q ns) (ht : H t = none) : t ≠ q := by
  obtain ⟨_, hq, _⟩ := h
  exact (ne_of_none hq ht).symm
end Dw
namespace Dw
open PySem PySem.Spec PyProof.Rows L2 SX
def num (n : Nat) : List Nat := cs (toString (n : Int))
/-- a piece of a text, the kind and the value of its token -/
inductive Piece : List Nat → List Nat → V → Prop
  | res {l : List Nat} (h : l ∈ RES) : Piece l (cs "reserved") (.str (S l))
  | name {l : List Nat} (h : GName l) : Piece l (cs "name") (.str (S l))
  | word {l : List Nat} (h : GWord l) : Piece l (cs "word") (.str (S l))
  | num (n : Nat) (h : n < 256) : Piece (num n) (cs "number") (.int (n : Int))
  | sign {l : List Nat} (h : l ∈ SGN) : Piece l (cs "sign") (.str (S l))
end Dw
namespace Dw
open PySem PySem.Spec PyProof.Rows L2 SX
theorem But.upd2 {p t : Addr} {H H1 : Hp} {o : HO} (hB : But p H H1) (ht : H1 t = none) : But p H (L2.upd H1 t o) := hB.trans (But.of (same_upd ht))
end Dw
namespace Dw
open PySem PySem.Spec PyProof.Rows L2 SX
/-! loops by a word, what follows a turn left open -/
theorem while_up {c : TT} {tb : TS} {D : Ends} {σ : L2.St} {H : Hp} (W : Nat → L2.St → Hp → Prop) (h0 : ∃ m, W m σ H)
    (hs : ∀ m σ H (N : L2.St → Hp → Prop), W m σ H → (∀ m' σ' H', m' < m → W m' σ' H' → N σ' H') → c σ H fun b H1 => if b = true then tb { D with nx := N, ct := N, bk := D.nx } σ H1 else D.nx σ H1)
    (mono : ∀ σ H Q Q', (∀ b H1, Q b H1 → Q' b H1) → c σ H Q → c σ H Q') : tWhile c tb D σ H := by
  refine ⟨W, h0, fun m σ H hw => ?_⟩
  refine mono σ H _ _ (fun b H1 q => ?_) (hs m σ H (fun σ' H' => ∃ m', m' < m ∧ W m' σ' H') hw (fun m' σ' H' h1 h2 => ⟨m', h1, h2⟩))
  cases b with
  | true => exact ⟨_, fun σ' H' h => h, q⟩
  | false => exact q
theorem for_listN {K : PySem.W.Frag} {a : Addr} {xs : List V} {g : TG} {tb : TS} {D : Ends} {σ : L2.St} {H : Hp} (Pv : Nat → L2.St → Hp → Prop) (h0 : Pv 0 σ H) (hl : ∀ i σ H, i ≤ xs.length → Pv i σ H → SqL K H a xs)
    (hs : ∀ i x σ H (N : L2.St → Hp → Prop), xs[i]? = some x → Pv i σ H → (∀ σ' H', Pv (i + 1) σ' H' → N σ' H') → g x σ H fun σ2 H2 => tb { D with nx := N, ct := N, bk := D.nx } σ2 H2) (hd : ∀ σ H, Pv xs.length σ H → D.nx σ H) :
    ForJ (Itl K a) g tb D σ H := for_list Pv h0 hl (fun i x σ H hx hp => hs i x σ H (Pv (i + 1)) hx hp (fun _ _ h => h)) hd
theorem for_tupN {K : PySem.W.Frag} {a : Addr} {xs : List V} {g : TG} {tb : TS} {D : Ends} {σ : L2.St} {H : Hp} (Pv : Nat → L2.St → Hp → Prop) (h0 : Pv 0 σ H) (hl : ∀ i σ H, i ≤ xs.length → Pv i σ H → SqT K H a xs)
    (hs : ∀ i x σ H (N : L2.St → Hp → Prop), xs[i]? = some x → Pv i σ H → (∀ σ' H', Pv (i + 1) σ' H' → N σ' H') → g x σ H fun σ2 H2 => tb { D with nx := N, ct := N, bk := D.nx } σ2 H2) (hd : ∀ σ H, Pv xs.length σ H → D.nx σ H) :
    ForJ (Itt K a) g tb D σ H := for_tup Pv h0 hl (fun i x σ H hx hp => hs i x σ H (Pv (i + 1)) hx hp (fun _ _ h => h)) hd
theorem for_rangeN {lo : Int} {n : Nat} {g : TG} {tb : TS} {D : Ends} {σ : L2.St} {H : Hp} (Pv : Nat → L2.St → Hp → Prop) (h0 : Pv 0 σ H)
    (hs : ∀ i σ H (N : L2.St → Hp → Prop), i < n → Pv i σ H → (∀ σ' H', Pv (i + 1) σ' H' → N σ' H') → g (.int (lo + i)) σ H fun σ2 H2 => tb { D with nx := N, ct := N, bk := D.nx } σ2 H2) (hd : ∀ σ H, Pv n σ H → D.nx σ H) :
    ForJ (Itr lo n) g tb D σ H := for_range Pv h0 (fun i σ H hx hp => hs i σ H (Pv (i + 1)) hx hp (fun _ _ h => h)) hd
theorem lc_listN {K : PySem.W.Frag} {a : Addr} {xs : List V} {g : TG} {tt : TT} {te : TE} {vs : List Nat} {σ : L2.St} {H1 : Hp} {D : Addr} {Qd : Hp → Prop} (Pv : Nat → Hp → Prop) (h0 : Pv 0 (upd H1 D (.lst []))) (hl : ∀ i H, i ≤ xs.length → Pv i H → SqL K H a xs)
    (hs : ∀ i x H (N : Hp → Prop), xs[i]? = some x → Pv i H → (∀ H', Pv (i + 1) H' → N H') → g x (wipe σ vs) H fun σ2 H2 => wipe σ2 vs = wipe σ vs ∧ tt σ2 H2 fun b H3 =>
      if b = true then te σ2 H3 fun y H4 => ∃ acc, H4 D = some (.lst acc) ∧ acc.length < sizeLine ∧ N (upd H4 D (.lst (acc ++ [y]))) else N H3) (hd : ∀ H, Pv xs.length H → Qd H) :
    LcJ (Itl K a) g tt te vs D σ H1 Qd := lc_list Pv h0 hl (fun i x H hx hp => hs i x H (Pv (i + 1)) hx hp (fun _ h => h)) hd
theorem lc_tupN {K : PySem.W.Frag} {a : Addr} {xs : List V} {g : TG} {tt : TT} {te : TE} {vs : List Nat} {σ : L2.St} {H1 : Hp} {D : Addr} {Qd : Hp → Prop} (Pv : Nat → Hp → Prop) (h0 : Pv 0 (upd H1 D (.lst []))) (hl : ∀ i H, i ≤ xs.length → Pv i H → SqT K H a xs)
    (hs : ∀ i x H (N : Hp → Prop), xs[i]? = some x → Pv i H → (∀ H', Pv (i + 1) H' → N H') → g x (wipe σ vs) H fun σ2 H2 => wipe σ2 vs = wipe σ vs ∧ tt σ2 H2 fun b H3 =>
      if b = true then te σ2 H3 fun y H4 => ∃ acc, H4 D = some (.lst acc) ∧ acc.length < sizeLine ∧ N (upd H4 D (.lst (acc ++ [y]))) else N H3) (hd : ∀ H, Pv xs.length H → Qd H) :
    LcJ (Itt K a) g tt te vs D σ H1 Qd := lc_tup Pv h0 hl (fun i x H hx hp => hs i x H (Pv (i + 1)) hx hp (fun _ h => h)) hd
theorem lc_rangeN {lo : Int} {n : Nat} {g : TG} {tt : TT} {te : TE} {vs : List Nat} {σ : L2.St} {H1 : Hp} {D : Addr} {Qd : Hp → Prop} (Pv : Nat → Hp → Prop) (h0 : Pv 0 (upd H1 D (.lst [])))
    (hs : ∀ i H (N : Hp → Prop), i < n → Pv i H → (∀ H', Pv (i + 1) H' → N H') → g (.int (lo + i)) (wipe σ vs) H fun σ2 H2 => wipe σ2 vs = wipe σ vs ∧ tt σ2 H2 fun b H3 =>
      if b = true then te σ2 H3 fun y H4 => ∃ acc, H4 D = some (.lst acc) ∧ acc.length < sizeLine ∧ N (upd H4 D (.lst (acc ++ [y]))) else N H3) (hd : ∀ H, Pv n H → Qd H) :
    LcJ (Itr lo n) g tt te vs D σ H1 Qd := lc_range Pv h0 (fun i H hx hp => hs i H (Pv (i + 1)) hx hp (fun _ h => h)) hd
theorem cut_by {t u : TS} {D : Ends} {σ : L2.St} {H : Hp} (M : L2.St → Hp → Prop) (h1 : ∀ N : L2.St → Hp → Prop, (∀ σ' H', M σ' H' → N σ' H') → t { D with nx := N } σ H) (h2 : ∀ σ' H', M σ' H' → u D σ' H') : C8.tCut t u D σ H :=
  ⟨M, h1 M (fun _ _ h => h), h2⟩
/-! signs at the head of what is left -/
def hdIn (ch : List Nat) : List Nat → Bool
  | [] => false
  | c :: _ => decide (c ∈ ch)
theorem run_split (ch : List Nat) : ∀ l : List Nat, ∃ a b, l = a ++ b ∧ (∀ c ∈ a, c ∈ ch) ∧ hdIn ch b = false
  | [] => ⟨[], [], rfl, (fun _ h => nomatch h), rfl⟩
  | c :: r => by
    by_cases h : c ∈ ch
    · obtain ⟨a, b, rfl, h1, h2⟩ := run_split ch r
      refine ⟨c :: a, b, rfl, fun d hd => ?_, h2⟩
      rcases List.mem_cons.mp hd with e | e
      · rw [e]; exact h
      · exact h1 d e
    · exact ⟨[], c :: r, rfl, (fun _ h => nomatch h), decide_eq_false h⟩
theorem at_app {pre : List Nat} {c : Nat} {r : List Nat} : atI (pre ++ c :: r) ((pre.length : Nat) : Int) = some c := by
  refine atI_nat ?_
  rw [List.getElem?_append_right (Nat.le_refl _), Nat.sub_self]
  rfl
theorem cut_mid (pre l rest : List Nat) : Txt.slice (S (pre ++ (l ++ rest))) (some ((pre.length : Nat) : Int)) (some ((pre.length + l.length : Nat) : Int)) = S l := by
  rw [← C8.cutS_slice]
  unfold cutS
  rw [HT.sIx_nat, HT.sIx_nat, len_S, S_cps]
  have e1 : min pre.length (pre ++ (l ++ rest)).length = pre.length := by
    rw [List.length_append]; omega
  have e2 : min (pre.length + l.length) (pre ++ (l ++ rest)).length = pre.length + l.length := by
    rw [List.length_append, List.length_append]; omega
  rw [e1, e2, List.drop_left, Nat.add_sub_cancel_left, List.take_left]
end Dw
namespace Dw
open PySem PySem.Spec PyProof.Rows L2 SX
def NxW (W : Nat → L2.St → Hp → Prop) (m : Nat) (tb : TS) (D : Ends) (σ : L2.St) (H1 : Hp) : Prop := ∃ N : L2.St → Hp → Prop, (∀ σ' H', N σ' H' → ∃ m', m' < m ∧ W m' σ' H') ∧ tb { D with nx := N, ct := N, bk := D.nx } σ H1
theorem nxw_of {W : Nat → L2.St → Hp → Prop} {m : Nat} {tb : TS} {D : Ends} {σ : L2.St} {H1 : Hp} (h : ∀ N : L2.St → Hp → Prop, (∀ m' σ' H', m' < m → W m' σ' H' → N σ' H') → tb { D with nx := N, ct := N, bk := D.nx } σ H1) : NxW W m tb D σ H1 :=
  ⟨_, fun _ _ h => h, h (fun σ' H' => ∃ m', m' < m ∧ W m' σ' H') fun m' σ' H' h1 h2 => ⟨m', h1, h2⟩⟩
theorem while_W {c : TT} {tb : TS} {D : Ends} {σ : L2.St} {H : Hp} (W : Nat → L2.St → Hp → Prop) (h0 : ∃ m, W m σ H)
    (hs : ∀ m σ H, W m σ H → c σ H fun b H1 => if b = true then NxW W m tb D σ H1 else D.nx σ H1) : tWhile c tb D σ H := ⟨W, h0, hs⟩
end Dw
namespace Dw
open PySem PySem.Spec PyProof.Rows L2 SX
/-- a run of these signs and figures, a sign first, of at most 12 -/
def run (ch l : List Nat) : Bool := decide (1 ≤ l.length) && decide (l.length ≤ 12) && hdIn ch l && l.all fun c => decide (c ∈ ch ++ DIG)
/-- a value that is no text -/
inductive NoStr (H : Hp) : V → Prop
  | non : NoStr H .non
  | int (i : Int) : NoStr H (.int i)
  | bl (b : Bool) : NoStr H (.bl b)
  | tup {a : Addr} {xs : List V} (h : H a = some (.tup xs)) : NoStr H (.ref a)
theorem kit_str {K : PySem.W.Frag} : PySem.W.kitOne K (.type "str") (.type "str") = some true := kit_ty (by decide +kernel)
theorem NoStr.ty {K : PySem.W.Frag} {H : Hp} {v : V} (h : NoStr H v) : ∃ t, TyX K H v t ∧ PySem.W.kitOne K t (.type "str") = some false := by
  cases h with
  | non => exact ⟨_, .base .non, kit_ty (by decide +kernel)⟩
  | int i => exact ⟨_, .base (.int i), kit_ty (by decide +kernel)⟩
  | bl b => exact ⟨_, .base (.bl b), kit_ty (by decide +kernel)⟩
  | tup h => exact ⟨_, .base (.tup h), kit_ty (by decide +kernel)⟩
theorem gname_iff {l : List Nat} : (run LOW l && !decide (l ∈ RES)) = true ↔ GName l := by
  unfold run
  constructor
  · intro h
    simp only [Bool.and_eq_true, decide_eq_true_eq, List.all_eq_true, Bool.not_eq_true', decide_eq_false_iff_not] at h
    obtain ⟨⟨⟨⟨h1, h2⟩, h3⟩, h4⟩, h5⟩ := h
    refine ⟨?_, h4, h2, h5⟩
    cases l with
    | nil => exact absurd h1 (by decide)
    | cons c r => exact ⟨c, r, rfl, of_decide_eq_true h3⟩
  · rintro ⟨⟨c, r, rfl, hc⟩, h2, h3, h4⟩
    simp only [Bool.and_eq_true, decide_eq_true_eq, List.all_eq_true, Bool.not_eq_true', decide_eq_false_iff_not]
    exact ⟨⟨⟨⟨by simp, h3⟩, decide_eq_true hc⟩, h2⟩, h4⟩
end Dw
namespace Dw
open PySem PySem.Spec PyProof.Rows L2 SX
structure After (l rest : List Nat) : Prop where
  an : ∀ x, l.getLast? = some x → isAN x = true → ∀ y r, rest = y :: r → isAN y = false
  sg : ∀ s ∈ SGN, l.length < s.length → pfx l s = true → pfx s (l ++ rest) = false
theorem an_ld : ∀ c ∈ LOW ++ DIG, isAN c = true := by decide +kernel
theorem an_ud : ∀ c ∈ UPP ++ DIG, isAN c = true := by decide +kernel
theorem After.hd {l rest ch : List Nat} (h : After l rest) (hne : l ≠ []) (al : ∀ c ∈ l, isAN c = true) (hch : ∀ c ∈ ch, isAN c = true) : hdIn ch rest = false := by
  cases rest with
  | nil => rfl
  | cons y r =>
    have h1 := h.an _ (List.getLast?_eq_some_getLast hne) (al _ (List.getLast_mem hne)) y r rfl
    refine decide_eq_false fun hy => ?_
    rw [hch y hy] at h1
    cases h1
theorem res_ok : ∀ l ∈ RES, (∃ c r, l = c :: r ∧ c ∈ LOW) ∧ (∀ c ∈ l, c ∈ LOW ++ DIG) ∧ l.length ≤ 12 := by decide +kernel
theorem sgn_ok : ∀ l ∈ SGN, l ≠ [] ∧ hdIn LOW l = false ∧ hdIn UPP l = false ∧ hdIn DIG l = false ∧ hdIn [32, 10] l = false := by decide +kernel
theorem low_ok : ∀ c ∈ LOW, c ≠ 32 ∧ c ≠ 10 := by decide +kernel
theorem upp_ok : ∀ c ∈ UPP, c ∉ LOW ∧ c ≠ 32 ∧ c ≠ 10 := by decide +kernel
theorem dig_ok : ∀ c ∈ DIG, c ∉ LOW ∧ c ∉ UPP ∧ c ≠ 32 ∧ c ≠ 10 := by decide +kernel
theorem num_ok : ∀ n : Nat, n < 256 → num n ≠ [] ∧ (∀ c ∈ num n, c ∈ DIG) ∧ (num n).length ≤ 3 ∧ ((num n).head? = some 48 → (num n).length = 1) ∧ (num n).all (fun c => decide (48 ≤ c) && decide (c ≤ 57)) = true ∧ NumText.digitsVal (num n) = n := by decide +kernel
/-- a sign stands ahead of the signs that it begins with -/
theorem sgn_first : ∀ (i j : Fin 24), i < j → pfx (SGN.getD i []) (SGN.getD j []) = false := by decide +kernel
theorem num_int {n : Nat} (h : n < 256) : intText? (S (num n)) = some (n : Int) := by
  obtain ⟨h1, h2, h3, h4, h5, h6⟩ := num_ok n h
  rw [int_S h5 h1 (by omega), h6]
end Dw
namespace Dw
open PySem PySem.Spec PyProof.Rows L2 SX
theorem sgn_len24 : SGN.length = 24 := by decide +kernel
theorem sgn_before {i j : Nat} {s l : List Nat} (h : i < j) (hi : SGN[i]? = some s) (hj : SGN[j]? = some l) : pfx s l = false := by
  have h1 : j < 24 := by
    have := (List.getElem?_eq_some_iff.mp hj).1
    rw [sgn_len24] at this
    exact this
  have := sgn_first ⟨i, by omega⟩ ⟨j, h1⟩ h
  rw [List.getD_eq_getElem?_getD, List.getD_eq_getElem?_getD] at this
  rw [show SGN[(⟨i, by omega⟩ : Fin 24).val]? = some s from hi, show SGN[(⟨j, h1⟩ : Fin 24).val]? = some l from hj] at this
  exact this
theorem pfx_short {s l r : List Nat} (h : pfx s (l ++ r) = true) (hl : s.length ≤ l.length) : pfx s l = true := by
  unfold pfx at h ⊢
  rw [List.take_append_of_le_length hl] at h
  exact h
theorem pfx_two {s l r : List Nat} (h : pfx s (l ++ r) = true) (hl : l.length ≤ s.length) : pfx l s = true := by
  unfold pfx at h ⊢
  rw [beq_iff_eq] at h ⊢
  rw [← h, List.take_take, Nat.min_eq_left hl, List.take_left]
end Dw
namespace Dw
open PySem PySem.Spec PyProof.Rows L2 SX
/-- a piece, the space behind it, its token's kind and value -/
structure Itm where
  l : List Nat
  sp : List Nat
  k : List Nat
  v : V
def irow (x : Itm) : TRow := (x.l, x.sp)
abbrev iflat (r : List Itm) : List Nat := flat (r.map irow)
def Goods : List Itm → Prop
  | [] => True
  | x :: r => Piece x.l x.k x.v ∧ Blank x.sp ∧ After x.l (x.sp ++ iflat r) ∧ Goods r
theorem iflat_cons (x : Itm) (r : List Itm) : iflat (x :: r) = x.l ++ (x.sp ++ iflat r) := flat_cons _ _
/-- the tokens of these items stand at these places -/
def Toks (H : Hp) : Nat → List Itm → List Addr → Prop
  | _, [], [] => True
  | n, x :: r, a :: as => H a = some (.tup [.str (S x.k), x.v, .int (n : Nat)]) ∧ Toks H (n + x.l.length + x.sp.length) r as
  | _, _, _ => False
theorem Toks.same {H H' : Hp} (e : Same H H') : ∀ {n : Nat} {r : List Itm} {as : List Addr}, Toks H n r as → Toks H' n r as
  | _, [], [], _ => trivial
  | _, x :: r, a :: as, h => ⟨e _ _ h.1, Toks.same e h.2⟩
  | _, [], _ :: _, h => h.elim
  | _, _ :: _, [], h => h.elim
theorem Toks.but {p : Addr} {H H' : Hp} (e : But p H H') (hp : ∀ xs, H p ≠ some (.tup xs)) : ∀ {n : Nat} {r : List Itm} {as : List Addr}, Toks H n r as → Toks H' n r as
  | _, [], [], _ => trivial
  | _, x :: r, a :: as, h => ⟨e _ _ (fun q => hp _ (q ▸ h.1)) h.1, Toks.but e hp h.2⟩
  | _, [], _ :: _, h => h.elim
  | _, _ :: _, [], h => h.elim
theorem Toks.len {H : Hp} : ∀ {n : Nat} {r : List Itm} {as : List Addr}, Toks H n r as → as.length = r.length
  | _, [], [], _ => rfl
  | _, x :: r, a :: as, h => congrArg (· + 1) (Toks.len h.2)
  | _, [], _ :: _, h => h.elim
  | _, _ :: _, [], h => h.elim
theorem Toks.snoc {H : Hp} {x : Itm} {a : Addr} : ∀ {n : Nat} {r : List Itm} {as : List Addr}, Toks H n r as → H a = some (.tup [.str (S x.k), x.v, .int ((n + (iflat r).length : Nat) : Int)]) → Toks H n (r ++ [x]) (as ++ [a])
  | _, [], [], _, h => ⟨h, trivial⟩
  | n, y :: r, b :: as, h, h2 => ⟨h.1, Toks.snoc h.2 (by
      rw [iflat_cons, List.length_append, List.length_append] at h2
      rw [show n + y.l.length + y.sp.length + (iflat r).length = n + (y.l.length + (y.sp.length + (iflat r).length)) by omega]
      exact h2)⟩
  | _, [], _ :: _, h, _ => h.elim
  | _, _ :: _, [], h, _ => h.elim
theorem Goods.append : ∀ {a b : List Itm}, Goods (a ++ b) → Goods b
  | [], _, h => h
  | _ :: a, _, h => Goods.append (a := a) h.2.2.2
theorem piece_hd {l k : List Nat} {v : V} (h : Piece l k v) : ∃ c r, l = c :: r ∧ c ≠ 32 ∧ c ≠ 10 := by
  cases h with
  | res h =>
    obtain ⟨⟨c, r, e, hc⟩, _⟩ := res_ok l h
    exact ⟨c, r, e, low_ok c hc⟩
  | name h =>
    obtain ⟨c, r, e, hc⟩ := h.hd
    exact ⟨c, r, e, low_ok c hc⟩
  | word h =>
    obtain ⟨c, r, e, hc⟩ := h.hd
    exact ⟨c, r, e, (upp_ok c hc).2⟩
  | num n h =>
    obtain ⟨n1, n2, _⟩ := num_ok n h
    obtain ⟨c, r, e⟩ := cons_of n1
    exact ⟨c, r, e, (dig_ok c (n2 c (by rw [e]; exact List.mem_cons_self))).2.2⟩
  | sign h =>
    obtain ⟨n1, _, _, _, n5⟩ := sgn_ok l h
    obtain ⟨c, r, e⟩ := cons_of n1
    rw [e] at n5
    have : c ∉ [32, 10] := of_decide_eq_false n5
    simp at this
    exact ⟨c, r, e, this⟩
theorem piece_len {l k : List Nat} {v : V} (h : Piece l k v) : l.length ≤ 12 := by
  cases h with
  | res h => exact (res_ok l h).2.2
  | name h => exact h.le
  | word h => exact h.le
  | num n h => have := (num_ok n h).2.2.1; omega
  | sign h => have := sgn_len l h; omega
end Dw
namespace Dw
open PySem PySem.Spec PyProof.Rows L2 SX
theorem Same.new {H H1 : Hp} {t : Addr} {o : HO} (e : Same H H1) (ht : H t = none) : Same H (L2.upd H1 t o) := fun b u h => by
  rw [upd_ne (ne_of_none h ht)]
  exact e b u h
end Dw
namespace Dw
open PySem PySem.Spec PyProof.Rows L2 SX
/-! the tokens as data -/
inductive TV : V → PyData → Prop
  | str (z : Str) : TV (.str z) (.str z)
  | int (i : Int) : TV (.int i) (.int i)
def vD : V → PyData
  | .str z => .str z
  | .int i => .int i
  | _ => .none
theorem piece_vD {l k : List Nat} {v : V} (h : Piece l k v) : TV v (vD v) := by
  cases h <;> constructor
def tokD (n : Nat) (x : Itm) : PyData := .tuple [.str (S x.k), vD x.v, .int (n : Nat)]
def toksD : Nat → List Itm → List PyData
  | _, [] => []
  | n, x :: r => tokD n x :: toksD (n + x.l.length + x.sp.length) r
theorem vD_depth (v : V) : (vD v).depth = 0 := by
  cases v <;> simp [vD, PyData.depth]
theorem ok_S {l : List Nat} (h : ∀ c ∈ l, c < 128) : PyData.strOk (S l) = true := by
  unfold PyData.strOk
  rw [← Array.all_toList]
  exact List.all_eq_true.mpr fun c hc => decide_eq_true (Nat.lt_trans (h c hc) (by decide))
theorem ld_128 : ∀ c ∈ LOW ++ DIG, c < 128 := by decide +kernel
theorem ud_128 : ∀ c ∈ UPP ++ DIG, c < 128 := by decide +kernel
theorem sgn_128 : ∀ s ∈ SGN, ∀ c ∈ s, c < 128 := by decide +kernel
theorem kinds_128 : ∀ s ∈ (["reserved", "name", "word", "number", "sign"] : List String), ∀ c ∈ cs s, c < 128 := by decide +kernel
structure LayI (x : Itm) : Prop where
  k : PyData.strOk (S x.k) = true
  v : (vD x.v).canLay0 = true
theorem piece_lay {l k : List Nat} {v : V} (h : Piece l k v) : PyData.strOk (S k) = true ∧ (vD v).canLay0 = true := by
  cases h with
  | res h => exact ⟨ok_S (kinds_128 "reserved" (by simp)), by simp only [vD, PyData.canLay0]; exact ok_S fun c hc => ld_128 c ((res_ok l h).2.1 c hc)⟩
  | name h => exact ⟨ok_S (kinds_128 "name" (by simp)), by simp only [vD, PyData.canLay0]; exact ok_S fun c hc => ld_128 c (h.all c hc)⟩
  | word h => exact ⟨ok_S (kinds_128 "word" (by simp)), by simp only [vD, PyData.canLay0]; exact ok_S fun c hc => ud_128 c (h.all c hc)⟩
  | num n h => exact ⟨ok_S (kinds_128 "number" (by simp)), by simp only [vD, PyData.canLay0]⟩
  | sign h => exact ⟨ok_S (kinds_128 "sign" (by simp)), by simp only [vD, PyData.canLay0]; exact ok_S fun c hc => sgn_128 l h c hc⟩
theorem toksD_lay : ∀ (n : Nat) (r : List Itm), (∀ x ∈ r, LayI x) → PyData.canLayAll0 (toksD n r) = true
  | _, [], _ => by simp [toksD, PyData.canLayAll0]
  | n, x :: r, h => by
    have h1 := h x List.mem_cons_self
    simp [toksD, tokD, PyData.canLayAll0, PyData.canLay0, h1.k, h1.v, toksD_lay _ r fun y hy => h y (List.mem_cons_of_mem _ hy)]
theorem toksD_depth : ∀ (n : Nat) (r : List Itm), PyData.depthAll (toksD n r) ≤ 1
  | _, [] => by simp [toksD, PyData.depthAll]
  | n, x :: r => by
    have h1 := toksD_depth (n + x.l.length + x.sp.length) r
    simp only [toksD, tokD, PyData.depthAll, PyData.depth, vD_depth x.v]
    omega
theorem toksD_shaped (n : Nat) (r : List Itm) (h : ∀ x ∈ r, LayI x) : SeqAt.shaped (.list (toksD n r)) = true := by
  have h1 := toksD_depth n r
  have h2 : PyData.depth (.list (toksD n r)) ≤ 64 := by
    simp only [PyData.depth]
    omega
  show (PyData.canLay0 (.list (toksD n r)) && decide (PyData.depth (.list (toksD n r)) ≤ 64)) = true
  rw [Bool.and_eq_true]
  exact ⟨by simp only [PyData.canLay0]; exact toksD_lay n r h, decide_eq_true h2⟩
theorem shaped_refl {d : PyData} (h : SeqAt.shaped d = true) : PyData.eqv d d = true := SeqAt.eqv_refl d (SeqAt.canLay_of_shaped h)
theorem toks_dp {K : PySem.W.Frag} {H : Hp} : ∀ {n : Nat} {r : List Itm} {as : List Addr}, (∀ x ∈ r, TV x.v (vD x.v)) → Toks H n r as → DpAll K H (as.map V.ref) (toksD n r)
  | _, [], [], _, _ => .nil
  | n, x :: r, a :: as, hv, h => by
    refine .cons (.tup (SqT.of h.1) (.cons (.str _) (.cons ?_ (.cons (.int _) .nil)))) (toks_dp (fun y hy => hv y (List.mem_cons_of_mem _ hy)) h.2)
    have := hv x List.mem_cons_self
    generalize vD x.v = d at this
    cases hx : x.v <;> rw [hx] at this <;> cases this
    · exact .int _
    · exact .str _
  | _, [], _ :: _, _, h => h.elim
  | _, _ :: _, [], _, h => h.elim
theorem strs_lay : ∀ L : List (List Nat), (∀ l ∈ L, ∀ c ∈ l, c < 128) → PyData.canLayAll0 (L.map fun l => .str (S l)) = true
  | [], _ => by simp [PyData.canLayAll0]
  | l :: L, h => by simp [PyData.canLayAll0, PyData.canLay0, ok_S (h l List.mem_cons_self), strs_lay L fun m hm => h m (List.mem_cons_of_mem _ hm)]
theorem strs_depth : ∀ L : List (List Nat), PyData.depthAll (L.map fun l => .str (S l)) = 0
  | [] => by simp [PyData.depthAll]
  | l :: L => by simp [PyData.depthAll, PyData.depth, strs_depth L]
theorem strs_shaped (L : List (List Nat)) (h : ∀ l ∈ L, ∀ c ∈ l, c < 128) : SeqAt.shaped (.list (L.map fun l => .str (S l))) = true := by
  simp [SeqAt.shaped, PyData.canLay0, PyData.depth, strs_lay L h, strs_depth]
theorem res_128 : ∀ s ∈ RES, ∀ c ∈ s, c < 128 := by decide +kernel
theorem strs_dp {K : PySem.W.Frag} {H : Hp} : ∀ L : List (List Nat), DpAll K H (L.map vS) (L.map fun l => .str (S l))
  | [] => .nil
  | _ :: L => .cons (.str _) (strs_dp L)
/-! pieces as they stand -/
structure Pc where
  r : Addr
  t : Addr
  l : List Nat
  k : List Nat
  v : V
def PcsAt (H : Hp) (ps : List Pc) : Prop := ∀ x ∈ ps, Piece x.l x.k x.v ∧ H x.r = some (.lst [.str (S x.l), .ref x.t]) ∧ H x.t = some (.tup [.str (S x.k), x.v])
theorem PcsAt.same {H H' : Hp} {ps : List Pc} (h : PcsAt H ps) (e : Same H H') : PcsAt H' ps := fun x hx => ⟨(h x hx).1, e _ _ (h x hx).2.1, e _ _ (h x hx).2.2⟩
/-- at p stands none of the pieces' objects -/
theorem PcsAt.but {H H' : Hp} {p : Addr} {ps : List Pc} (h : PcsAt H ps) (e : But p H H') (h1 : ∀ l t, H p ≠ some (.lst [.str l, .ref t])) (h2 : ∀ xs, H p ≠ some (.tup xs)) : PcsAt H' ps := fun x hx =>
  ⟨(h x hx).1, e _ _ (fun q => h1 _ _ (q ▸ (h x hx).2.1)) (h x hx).2.1, e _ _ (fun q => h2 _ (q ▸ (h x hx).2.2)) (h x hx).2.2⟩
theorem PcsAt.pool {H H' : Hp} {p q : Addr} {ns : List Int} {ps : List Pc} (h : PcsAt H ps) (hP : Pool H p q ns) (e : But p H H') : PcsAt H' ps := by
  obtain ⟨_, _, a, k, hp, _⟩ := hP
  refine h.but e (fun l t e2 => ?_) (fun xs e2 => ?_)
  · rw [hp] at e2
    cases e2
  · rw [hp] at e2
    cases e2
theorem Toks.pool {H H' : Hp} {p q : Addr} {ns : List Int} {n : Nat} {r : List Itm} {as : List Addr} (h : Toks H n r as) (hP : Pool H p q ns) (e : But p H H') : Toks H' n r as := by
  obtain ⟨_, _, a, k, hp, _⟩ := hP
  refine h.but e (fun xs e2 => ?_)
  rw [hp] at e2
  cases e2
/-! what stands behind a piece -/
def mkI : List Pc → List TRow → List Itm
  | x :: ps, y :: rs => ⟨x.l, y.2, x.k, x.v⟩ :: mkI ps rs
  | _, _ => []
theorem mkI_rows : ∀ (ps : List Pc) (rows : List TRow), rows.map (·.1) = ps.map (·.l) → (mkI ps rows).map irow = rows
  | [], [], _ => rfl
  | x :: ps, y :: rs, h => by
    rw [List.map_cons, List.map_cons] at h
    obtain ⟨h1, h2⟩ := List.cons.inj h
    show irow _ :: (mkI ps rs).map irow = y :: rs
    rw [mkI_rows ps rs h2]
    show ((x.l, y.2) : TRow) :: rs = y :: rs
    rw [← h1]
  | [], _ :: _, h => by cases h
  | _ :: _, [], h => by cases h
theorem mkI_len : ∀ (ps : List Pc) (rows : List TRow), rows.map (·.1) = ps.map (·.l) → (mkI ps rows).length = ps.length
  | [], [], _ => rfl
  | x :: ps, y :: rs, h => by
    rw [List.map_cons, List.map_cons] at h
    exact congrArg (· + 1) (mkI_len ps rs (List.cons.inj h).2)
  | [], _ :: _, h => by cases h
  | _ :: _, [], h => by cases h
theorem mkI_get : ∀ (ps : List Pc) (rows : List TRow) (i : Nat) (x : Pc) (y : TRow), ps[i]? = some x → rows[i]? = some y → (mkI ps rows)[i]? = some ⟨x.l, y.2, x.k, x.v⟩
  | [], _, _, _, _, h, _ => by simp at h
  | _ :: _, [], _, _, _, _, h => by simp at h
  | a :: ps, b :: rs, 0, x, y, h1, h2 => by
    obtain rfl := Option.some.inj h1
    obtain rfl := Option.some.inj h2
    rfl
  | a :: ps, b :: rs, i + 1, x, y, h1, h2 => mkI_get ps rs i x y h1 h2
theorem an_sp : isAN 32 = false ∧ isAN 10 = false := by decide +kernel
theorem sgn_nosp : ∀ s ∈ SGN, ∀ c ∈ s, c ≠ 32 ∧ c ≠ 10 := by decide +kernel
theorem sgn_take : ∀ s ∈ SGN, s.length = 3 → s.take 2 ∈ SGN := by decide +kernel
theorem piece_ne {l k : List Nat} {v : V} (h : Piece l k v) : l ≠ [] := by
  obtain ⟨c, r, e, _⟩ := piece_hd h
  rw [e]
  exact List.cons_ne_nil _ _
theorem joins_no {a b : List Nat} (h : joins a b = false) : (isAN (a.getLast?.getD 0) && isAN (b.head?.getD 0)) = false ∧ ∀ s ∈ SGN, (decide (a.length < s.length) && pfx a s && pfx s (a ++ b)) = false := by
  unfold joins at h
  rw [Bool.or_eq_false_iff, List.any_eq_false] at h
  exact ⟨h.1, fun s hs => Bool.eq_false_iff.mpr (h.2 s hs)⟩
theorem after_of {l sp rest : List Nat} (hb : ∀ c ∈ sp, c = 32 ∨ c = 10) (hr : sp = [] → rest ≠ [] → ∃ b tl, rest = b ++ tl ∧ b ≠ [] ∧ l ≠ [] ∧ joins l b = false) : After l (sp ++ rest) := by
  constructor
  · intro x hx hax y r hy
    cases sp with
    | cons c sp' =>
      obtain rfl : c = y := (List.cons.inj hy).1
      rcases hb c List.mem_cons_self with e | e
      · rw [e]; exact an_sp.1
      · rw [e]; exact an_sp.2
    | nil =>
      rw [List.nil_append] at hy
      obtain ⟨b, tl, e, hbn, _, hj⟩ := hr rfl (by rw [hy]; exact List.cons_ne_nil _ _)
      obtain ⟨c, b', rfl⟩ := cons_of hbn
      rw [e] at hy
      obtain rfl : c = y := (List.cons.inj hy).1
      have h1 := (joins_no hj).1
      rw [hx] at h1
      simpa [hax] using h1
  · intro s hs hlt hp
    cases hc : pfx s (l ++ (sp ++ rest)) with
    | false => rfl
    | true =>
      exfalso
      have hs3 := sgn_len s hs
      obtain ⟨u, hu⟩ := pfx_iff.mp hp
      have hune : u ≠ [] := fun e => by rw [hu, e, List.append_nil] at hlt; exact Nat.lt_irrefl _ hlt
      obtain ⟨w, hw⟩ := pfx_iff.mp hc
      rw [hu, List.append_assoc] at hw
      have hw2 := List.append_cancel_left hw
      obtain ⟨d, u', rfl⟩ := cons_of hune
      cases sp with
      | cons c sp' =>
        have e : c = d := (List.cons.inj hw2).1
        have h1 := sgn_nosp s hs d (by rw [hu]; simp)
        rcases hb c List.mem_cons_self with e2 | e2
        · exact h1.1 (by rw [← e, e2])
        · exact h1.2 (by rw [← e, e2])
      | nil =>
        rw [List.nil_append] at hw2 hc
        obtain ⟨b, tl, e, hbn, hln, hj⟩ := hr rfl (by rw [hw2]; exact List.cons_ne_nil _ _)
        have hno := (joins_no hj).2
        by_cases hle : s.length ≤ (l ++ b).length
        · have h3 := hno s hs
          rw [decide_eq_true hlt, hp] at h3
          rw [e, ← List.append_assoc] at hc
          rw [pfx_short hc hle] at h3
          cases h3
        · have l1 : 1 ≤ l.length := List.length_pos_iff.mpr hln
          have b1 : 1 ≤ b.length := List.length_pos_iff.mpr hbn
          rw [List.length_append] at hle
          have hs3' : s.length = 3 := by omega
          have hll : l.length = 1 := by omega
          have hbb : b.length = 1 := by omega
          have ht := sgn_take s hs hs3'
          have et : s.take 2 = l ++ b := by
            rw [e, ← List.append_assoc] at hc
            obtain ⟨w2, hw3⟩ := pfx_iff.mp hc
            have : (l ++ b ++ tl).take 2 = l ++ b := by
              rw [List.take_append_of_le_length (by rw [List.length_append]; omega), List.take_of_length_le (by rw [List.length_append]; omega)]
            rw [← this, hw3, List.take_append_of_le_length (by omega)]
          have h3 := hno _ ht
          rw [et] at h3
          have e1 : decide (l.length < (l ++ b).length) = true := decide_eq_true (by rw [List.length_append]; omega)
          have e2 : pfx l (l ++ b) = true := pfx_iff.mpr ⟨b, rfl⟩
          have e3 : pfx (l ++ b) (l ++ b) = true := pfx_iff.mpr ⟨[], by simp⟩
          rw [e1, e2, e3] at h3
          cases h3
theorem goods_of : ∀ (ps : List Pc) (rows : List TRow), rows.map (·.1) = ps.map (·.l) → (∀ x ∈ rows, Blank x.2) → Sepd rows → (∀ x ∈ ps, Piece x.l x.k x.v) → Goods (mkI ps rows)
  | [], [], _, _, _, _ => trivial
  | x :: ps, y :: rs, h, hb, hs, hp => by
    have h0 := h
    rw [List.map_cons, List.map_cons] at h
    obtain ⟨h1, h2⟩ := List.cons.inj h
    refine ⟨hp x List.mem_cons_self, hb y List.mem_cons_self, ?_, goods_of ps rs h2 (fun z hz => hb z (List.mem_cons_of_mem _ hz)) (fun k a b ha hb' => hs (k + 1) a b ha hb') (fun z hz => hp z (List.mem_cons_of_mem _ hz))⟩
    show After x.l (y.2 ++ flat ((mkI ps rs).map irow))
    rw [mkI_rows ps rs h2]
    refine after_of (hb y List.mem_cons_self).1 (fun hsp hne => ?_)
    cases rs with
    | nil => exact absurd rfl hne
    | cons z rs' =>
      cases ps with
      | nil => cases h2
      | cons w ps' =>
        have hw : z.1 = w.l := (List.cons.inj h2).1
        refine ⟨z.1, z.2 ++ flat rs', flat_cons _ _, by rw [hw]; exact piece_ne (hp w (by simp)), piece_ne (hp x (by simp)), ?_⟩
        cases hj : joins x.l z.1 with
        | false => rfl
        | true => exact absurd hsp (hs 0 y z rfl rfl (by rw [h1]; exact hj))
  | [], _ :: _, h, _, _, _ => by cases h
  | _ :: _, [], h, _, _, _ => by cases h
theorem places_get : ∀ (n : Nat) (rows : List TRow) (i : Nat), i < rows.length → (places n rows)[i]? = some (.int ((n + (flat (rows.take i)).length : Nat) : Int))
  | n, y :: r, 0, _ => by simp [places, flat]
  | n, y :: r, i + 1, h => by
    show (places (n + y.1.length + y.2.length) r)[i]? = _
    rw [places_get _ r i (Nat.lt_of_succ_lt_succ h), List.take_succ_cons, flat_cons, List.length_append, List.length_append]
    rw [show n + y.1.length + y.2.length + (flat (r.take i)).length = n + (y.1.length + (y.2.length + (flat (r.take i)).length)) by omega]
theorem goods_mem : ∀ {is : List Itm}, Goods is → ∀ x ∈ is, Piece x.l x.k x.v
  | [], _, _, h => nomatch h
  | y :: r, g, x, h => by
    rcases List.mem_cons.mp h with e | e
    · rw [e]; exact g.1
    · exact goods_mem g.2.2.2 x e
end Dw
namespace Dw
open PySem PySem.Spec PyProof.Rows L2 SX
/-! rules that name the written part K itself (for a comprehension's block) -/
section
variable {X : Cx} (K : PySem.W.Frag)
theorem ixL (h : X.K = K := by rfl) : IxR X (rIxL K) := h ▸ ix_list
theorem ixT (h : X.K = K := by rfl) : IxR X (rIxT K) := h ▸ ix_tup
def rLen (K : PySem.W.Frag) : List V → Hp → VK → Prop := fun xs H Q => ∃ p ys, xs = [.ref p] ∧ (SqL K H p ys ∨ SqT K H p ys) ∧ Q (.int ys.length) H
theorem lenS (h : X.K = K := by rfl) : CallR X (.builtin "len") (rLen K) := h ▸ call_len_seq
theorem inQ (h : X.K = K := by rfl) : OpR X (compareOp .In) (rIn K false) := h ▸ op_in_seq
theorem notInQ (h : X.K = K := by rfl) : OpR X (compareOp .NotIn) (rIn K true) := h ▸ op_notIn_seq
theorem catA (h : X.K = K := by rfl) : OpR X (binaryOp .Add) (rCatA K) := h ▸ op_catA
theorem eqDK (hu : X.A.units + 64 < cLine) (h : X.K = K := by rfl) : OpR X (compareOp .Eq) (rEqD K) := h ▸ op_eqD hu
theorem neDK (hu : X.A.units + 64 < cLine) (h : X.K = K := by rfl) : OpR X (compareOp .NotEq) (rNeD K) := h ▸ op_neD hu
def rListOf (K : PySem.W.Frag) : List V → Hp → VK → Prop := fun xs H Q => ∃ p ys, xs = [.ref p] ∧ (SqL K H p ys ∨ SqT K H p ys) ∧ ∀ l, H l = none → Q (.ref l) (upd H l (.lst ys))
theorem listOf (h : X.K = K := by rfl) : CallR X (.type "list") (rListOf K) := h ▸ call_list_of
def rTupOf (K : PySem.W.Frag) : List V → Hp → VK → Prop := fun xs H Q => ∃ p ys, xs = [.ref p] ∧ ((SqL K H p ys ∧ ∀ l, H l = none → Q (.ref l) (upd H l (.tup ys))) ∨ (SqT K H p ys ∧ Q (.ref p) H))
theorem tupOf (h : X.K = K := by rfl) : CallR X (.type "tuple") (rTupOf K) := h ▸ call_tuple_of
theorem isiK (h : X.K = K := by rfl) : CallR X (.builtin "isinstance") (rIsi K) := h ▸ call_isi
end
end Dw
namespace Dw
open PySem PySem.Spec PyProof.Rows L2 SX
theorem isi_of {K : PySem.W.Frag} {H : Hp} {Q : VK} {x : V} {t : Value} {c : String} {b : Bool} (ty : TyX K H x t) (k : PySem.W.kitOne K t (.type c) = some b) (q : Q (.bl b) H) : rIsi K [x, .ty c] H Q := ⟨x, .ty c, t, .type c, b, rfl, .ty _, ty, k, q⟩
end Dw
namespace Dw
open PySem PySem.Spec PyProof.Rows L2 SX
theorem Toks.get {H : Hp} : ∀ {n : Nat} {r : List Itm} {as : List Addr} {i : Nat} {x : Itm}, Toks H n r as → r[i]? = some x → ∃ (a : Addr) (m : Nat), as[i]? = some a ∧ H a = some (.tup [.str (S x.k), x.v, .int (m : Nat)])
  | _, [], [], _, _, _, h => by simp at h
  | n, y :: r, a :: as, 0, x, h, e => by
    obtain rfl := Option.some.inj e
    exact ⟨a, n, rfl, h.1⟩
  | n, y :: r, a :: as, i + 1, x, h, e => by
    obtain ⟨b, m, h1, h2⟩ := Toks.get (r := r) (i := i) (x := x) h.2 (by simpa using e)
    exact ⟨b, m, by simpa using h1, h2⟩
  | _, [], _ :: _, _, _, h, _ => h.elim
  | _, _ :: _, [], _, _, h, _ => h.elim
theorem run_no {l : List Nat} (h : hdIn LOW l = false) : (run LOW l && !decide (l ∈ RES)) = false := by
  unfold run
  rw [h]
  simp
theorem kinds_ne : cs "reserved" ≠ cs "name" ∧ cs "word" ≠ cs "name" ∧ cs "number" ≠ cs "name" ∧ cs "sign" ≠ cs "name" := by decide +kernel
theorem piece_name {l k : List Nat} {v : V} (h : Piece l k v) : (run LOW l && !decide (l ∈ RES)) = decide (k = cs "name") := by
  cases h with
  | res h =>
    rw [decide_eq_true h, decide_eq_false kinds_ne.1]
    simp
  | name h => rw [gname_iff.mpr h, decide_eq_true rfl]
  | word h =>
    obtain ⟨c, r, e, hc⟩ := h.hd
    rw [decide_eq_false kinds_ne.2.1, run_no]
    rw [e]
    exact decide_eq_false (upp_ok c hc).1
  | num n h =>
    obtain ⟨n1, n2, _⟩ := num_ok n h
    obtain ⟨c, r, e⟩ := cons_of n1
    rw [decide_eq_false kinds_ne.2.2.1, run_no]
    rw [e]
    exact decide_eq_false (dig_ok c (n2 c (by rw [e]; exact List.mem_cons_self))).1
  | sign h =>
    rw [decide_eq_false kinds_ne.2.2.2, run_no (sgn_ok l h).2.1]
theorem tv_bool {K : PySem.W.Frag} {H : Hp} {v : V} {d : PyData} (h : TV v d) : ∃ t, TyX K H v t ∧ PySem.W.kitOne K t (.type "bool") = some false := by
  cases h with
  | str z => exact ⟨_, .base (.str _), kit_ty (by decide +kernel)⟩
  | int i => exact ⟨_, .base (.int _), kit_ty (by decide +kernel)⟩
theorem kit_list {K : PySem.W.Frag} : PySem.W.kitOne K (.type "list") (.type "list") = some true := kit_ty (by decide +kernel)
/-- no names -/
def OTH : List (List Nat) := [cs "", cs "1a", List.replicate 13 97, cs "a b", cs "aB", cs "A", cs "a_"]
theorem oth_no : ∀ l ∈ OTH, (run LOW l && !decide (l ∈ RES)) = false ∧ l.length ≤ 1000 := by decide +kernel
theorem mul_a : Txt.mul (S (cs "a")) 13 = S (List.replicate 13 97) := by decide +kernel
theorem mul_z : Txt.mul (S (cs "z")) 12 = S (List.replicate 12 122) := by decide +kernel
theorem run_z : (run LOW (List.replicate 12 122) && !decide (List.replicate 12 122 ∈ RES)) = true := by decide +kernel
end Dw
namespace Dw
open PySem PySem.Spec PyProof.Rows L2 SX
/-! bad pieces -/
def BADC : List Nat := cs "!\"#$'./?@\\^_`"
inductive Bad : List Nat → Prop
  | char {c : Nat} (h : c ∈ BADC) : Bad [c]
  | longN {l : List Nat} (h0 : hdIn LOW l = true) (h1 : ∀ c ∈ l, c ∈ LOW ++ DIG) (h2 : 12 < l.length) (h3 : l.length ≤ 20) : Bad l
  | longW {l : List Nat} (h0 : hdIn UPP l = true) (h1 : ∀ c ∈ l, c ∈ UPP ++ DIG) (h2 : 12 < l.length) (h3 : l.length ≤ 20) : Bad l
  | mixN {a b : List Nat} (h0 : hdIn LOW a = true) (h1 : ∀ c ∈ a, c ∈ LOW ++ DIG) (h2 : hdIn UPP b = true) (h3 : a.length ≤ 10) (h4 : b.length ≤ 10) (h5 : ∀ c ∈ b, isAN c = true) : Bad (a ++ b)
  | mixW {a b : List Nat} (h0 : hdIn UPP a = true) (h1 : ∀ c ∈ a, c ∈ UPP ++ DIG) (h2 : hdIn LOW b = true) (h3 : a.length ≤ 10) (h4 : b.length ≤ 10) (h5 : ∀ c ∈ b, isAN c = true) : Bad (a ++ b)
  | zeros {l : List Nat} (h0 : l.head? = some 48) (h1 : ∀ c ∈ l, c ∈ DIG) (h2 : 1 < l.length) (h3 : l.length ≤ 30) : Bad l
  | big {l : List Nat} (h0 : l ≠ []) (h1 : ∀ c ∈ l, c ∈ DIG) (h2 : l.length ≤ 30) (n : Nat) (h3 : intText? (S l) = some (n : Int)) (h4 : 255 < n) : Bad l
  | letr {a b : List Nat} (h0 : a ≠ []) (h1 : ∀ c ∈ a, c ∈ DIG) (h2 : hdIn (LOW ++ UPP) b = true) (h3 : a.length ≤ 10) (h4 : b.length ≤ 10) (h5 : ∀ c ∈ b, isAN c = true) : Bad (a ++ b)
end Dw
namespace Dw
open PySem PySem.Spec PyProof.Rows L2
/-! try with several clauses, each with a name: «except A as e: .. except B as e: ..» -/
abbrev Clause := Value × Nat × (Addr → Value → Option Addr → TS)
/-- the ends of a suite whose name is unbound behind it -/
def unb (i : Nat) (D : Ends) : Ends := { nx := fun σ H => D.nx (σ.set i none) H, rt := D.rt, bk := fun σ H => D.bk (σ.set i none) H, ct := fun σ H => D.ct (σ.set i none) H }
def wNamed (K : PySem.W.Frag) (Wo : WX) (D : Ends) : List Clause → WX
  | [] => Wo
  | (c, i, ts) :: rest => fun cls d σ H => ∃ b, PySem.W.exmOne K cls c = some b ∧
      (b = true → ∀ a, H a = none → ts a cls d (unb i D) (σ.set i (some (.ref a))) H) ∧ (b = false → wNamed K Wo D rest cls d σ H)
inductive Named (X : Cx) : List ExceptHandler → List Clause → Prop
  | none : Named X [] []
  | more {x n : Str} {c : Value} {i : Nat} {ts : Addr → Value → Option Addr → TS} {st : Stmt} {sts : List Stmt} {p p' : Pos} {hs : List ExceptHandler} {l : List Clause}
      (nm : Names X x c) (at_i : X.N[i]? = some n) (loc : X.env.kindOf n = some .local)
      (su : ∀ (a : Addr) (oe : Obj) (cls : Value) (d : Option Addr) (pn : List (Addr × Obj)), Zc cls d oe → (∃ vs, oe.data = .fields vs) → PSs (X.suite a ((a, oe) :: pn)) (st :: sts) (ts a cls d))
      (rest : Named X hs l) : Named X (.ExceptHandler (some (.Name x p)) (some n) (st :: sts) p' :: hs) ((c, i, ts) :: l)
section
variable {X : Cx} {D : Ends} {Wo : WX}
/-- what the catching frame knows of the exception at a -/
structure Got (X : Cx) (pins : List (Addr × Obj)) (σ : L2.St) (H : Hp) (a : Addr) (cls : Value) (d : Option Addr) (B : Heap) (sI s' : Shared) (h : Heap) : Prop where
  J : Inv X pins σ H sI
  nb : ∀ b o, sI.heap.get? b = some o → b ∉ frs X.stack → B.get? b = some o
  up : sI.heap.UpToSlots h
  fl : HandSPX.FlyingZ B (X.env :: X.outer) a (Zc cls d) h
  na : H a = none
  os : s'.os = sI.os
  ag : AllBare s'.gens
  nL : a ≠ X.env.locals
  nF : a ∉ X.fs
theorem named_run {pins : List (Addr × Obj)} {σ : L2.St} {H : Hp} {a : Addr} {cls : Value} {d : Option Addr} {B : Heap} {sI s' : Shared} {h : Heap}
    (hst : X.stack = X.env :: X.outer) (hfm : X.env.frame = some X.env.locals) (hN : X.N.Nodup) (tk : Takes X Wo) (ok : X.Ok)
    (G : Got X pins σ H a cls d B sI s' h) : ∀ {hs : List ExceptHandler} {l : List Clause}, Named X hs l → wNamed X.K Wo D l cls d σ H →
    wpAny (model X.prog X.w) X.A (handleBy (.ref a) X.env hs) (SP X pins D) X.xe { s' with heap := h } := by
  intro hs l nmd
  have J3 : Inv X pins σ H { s' with heap := h } := G.J.landed G.nb G.fl.1 G.up G.os G.ag
  induction nmd with
  | none =>
    intro w
    refine wpAny_handleBy_nil ?_
    obtain ⟨_, _, _, oe, vs, T, oT, us, he, hz, hd, h1, _⟩ := id G.fl
    unfold PySem.passOn
    have nz : ¬ ((Value.ref T == Value.none) = true) := by simp
    have out : wpAny (model X.prog X.w) X.A (setFlight (.ref a) X.env.frame)
        (fun _ s4 => wpAny (model X.prog X.w) X.A (throw (.ref a) : Sem Flow) (SP X pins D) X.xe s4) X.xe { s' with heap := h } := by
      rw [hfm]
      refine HandSPX.setFlight_upZ G.fl fun h4 held up4 => wpAny_throw (tk _ _ ?_)
      have sky : Sky B X.stack a (Zc cls d) X.env.locals h4 := .inr (.inr (by rw [hst]; exact held))
      exact ⟨a, B, sI, pins, σ, H, cls, d, rfl, G.J, G.nb, G.up.trans up4, sky, G.na, G.os, G.ag, w⟩
    refine wpAny_bind (wpAny_field he hd h1 ?_)
    rw [if_neg nz]
    first | exact wpAny_bind (wpAny_pure (wpAny_bind out)) | exact wpAny_bind out
  | @more x n c i ts st sts p p' hs2 l2 nm at_i loc su rest ih =>
    rintro ⟨b, hb, yes, no⟩
    obtain ⟨oe, vs, he, hz, hd⟩ := G.fl.there
    have S3 := J3.suite he hd G.na G.nL G.nF
    have typ : PySem.W.Looks (model X.prog X.w) h (typeOf (.ref a)) cls := fun A Q E s k q => wpAny_typeOf_ref (k _ _ he) (by rw [hz.1]; exact q)
    have look := PySem.W.exm_one (M := model X.prog X.w) J3.kIn typ hb
    refine wpAny_handleBy_cons (codeAny_handlers_test ?_) (by intro q; cases q)
    have name : ∀ {Q : Value → Shared → Prop} {E : Value → Shared → Prop}, Q c { s' with heap := h } →
        wpAny (model X.prog X.w) (X.A.mark (some (.ref a))) (eval (.Name x p) X.env) Q E { s' with heap := h } := by
      intro Q E q
      obtain ⟨g1, g2, g3 | ⟨g3, g4, g5⟩⟩ := nm
      · exact ld_glob (X := X.suite a ((a, oe) :: (X.pn ++ pins))) S3 g1 g3 q g2
      · exact ld_blt (X := X.suite a ((a, oe) :: (X.pn ++ pins))) S3 g1 g3 g4 q g5 g2
    refine name (look.here ?_)
    cases b with
    | false =>
      show wpAny _ X.A (handleBy (.ref a) X.env hs2) _ _ _
      exact ih (no rfl)
    | true =>
      refine codeAny_handlers_suite_as (HandSPX.lands_againZ G.fl fun h4 fl4 up4 => ?_)
      have J4 : Inv X pins σ H { s' with heap := h4 } := G.J.landed G.nb fl4.1 (G.up.trans up4) G.os G.ag
      obtain ⟨oe4, vs4, he4, hz4, hd4⟩ := fl4.there
      have S4 := J4.suite he4 hd4 G.na G.nL G.nF
      refine store_ok (X := X.suite a ((a, oe4) :: (X.pn ++ pins))) (v := .ref a) S4 hN at_i (.inl loc) rfl (fun s5 S5 => ?_) (.inr loc)
      refine wpAny_mono ((su a oe4 cls d (X.pn ++ pins) hz4 ⟨_, hd4⟩).run [] s5 _ H (unb i D) S5 (yes rfl a G.na)) (fun f s6 done => ?_) (fun _ _ z => False.elim z)
      have behind : ∀ {σ6 : L2.St} {H6 : Hp} {Q : Shared → Prop}, Inv (X.suite a ((a, oe4) :: (X.pn ++ pins))) [] σ6 H6 s6 → (∀ s7, Inv X pins (σ6.set i none) H6 s7 → Q s7) →
          wpAny (model X.prog X.w) X.A (do bindName X.env n .none; unbindBehindTheSuite X.env n p') (fun _ s7 => Q s7) X.xe s6 :=
        fun {σ6 H6 Q} S6 hq => gone_ok (S6.unsuite ok) hN at_i loc hq
      cases f with
      | ret u => obtain ⟨v6, σ6, H6, S6, r6, q6⟩ := done; exact behind S6 fun s7 J7 => ⟨_, _, _, J7, r6, q6⟩
      | next => obtain ⟨σ6, H6, S6, q6⟩ := done; exact behind S6 fun s7 J7 => ⟨_, _, J7, q6⟩
      | brk => obtain ⟨σ6, H6, S6, q6⟩ := done; exact behind S6 fun s7 J7 => ⟨_, _, J7, q6⟩
      | cont => obtain ⟨σ6, H6, S6, q6⟩ := done; exact behind S6 fun s7 J7 => ⟨_, _, J7, q6⟩
variable {body : List Stmt} {hd0 : ExceptHandler} {hds : List ExceptHandler} {l : List Clause} {pos : Pos} {tb : WX → TS}
theorem ps_try_named (hst : X.stack = X.env :: X.outer) (hfm : X.env.frame = some X.env.locals) (hN : X.N.Nodup) (tk : Takes X Wo)
    (hb : ∀ (W : WX) (pn : List (Addr × Obj)) (xe : Value → Shared → Prop), Takes (X.tr pn xe) W → PassesOwn (model X.prog X.w) X.A X.env xe → PSs (X.tr pn xe) body (tb W))
    (hh : Named X (hd0 :: hds) l) : PS X (.Try body (hd0 :: hds) [] [] pos) (fun D σ H => tb (wNamed X.K Wo D l) D σ H) := by
  refine ⟨fun pins s σ H D I q0 => wpAny_Try_except ?_⟩
  have ok := I.ok
  have hfr : X.A.frames = some (X.env :: X.outer) := by rw [ok.frames, hst]
  let xe : Value → Shared → Prop := fun e s₁ => wpAny (model X.prog X.w) X.A (noteFrame e X.env)
    (fun _ s₂ => wpAny (model X.prog X.w) X.A (setFlight e none) (fun _ s₃ => wpAny (model X.prog X.w) X.A (handleBy e X.env (hd0 :: hds)) (SP X pins D) X.xe s₃) X.xe s₂) X.xe s₁
  have takes : Takes (X.tr (X.pn ++ pins) xe) (wNamed X.K Wo D l) := by
    rintro u s' ⟨a, B, sI, pins', σ', H', cls, d, rfl, J', nb, up, sky, na, os, ag, w⟩
    have J : Inv X pins σ' H' sI := J'.ofTry ok
    have sky' : Sky B (X.env :: X.outer) a (Zc cls d) X.env.locals s'.heap := by rw [← hst]; exact sky
    show wpAny (model X.prog X.w) X.A (noteFrame (.ref a) X.env) _ _ _
    refine Sky.land Zc.steady hfr hfm sky' fun h3 fl3 up3 => ?_
    obtain ⟨oe3, vs3, he3, _, hd3⟩ := fl3.there
    have far : a ∉ frs (X.env :: X.outer) := fun hm => by
      obtain ⟨_, o', e', hnf⟩ := fl3.2.2.1.mem hm
      rw [he3] at e'
      cases e'
      exact hnf _ hd3
    refine named_run hst hfm hN tk ok ⟨J, nb, up.trans up3, fl3, na, os, ag, fun z => ?_, fun hm => ?_⟩ hh w
    · exact far (List.mem_filterMap.mpr ⟨X.env, List.mem_cons_self, by rw [hfm, z]⟩)
    · obtain ⟨e, he, q⟩ := List.mem_filterMap.mp hm
      exact far (List.mem_filterMap.mpr ⟨e, List.mem_cons_of_mem _ he, q⟩)
  refine wpAny_mono ((hb _ (X.pn ++ pins) xe takes PassesOwn.looking).run [] s σ H D (I.toTry _) q0) (fun f s1 done => ?_) (fun _ _ z => z)
  cases f with
  | ret u => obtain ⟨v, σ', H', J', r, q⟩ := done; exact ⟨v, σ', H', J'.ofTry ok, r, q⟩
  | next => obtain ⟨σ', H', J', q⟩ := done; exact wpAny_execs_nil ⟨σ', H', J'.ofTry ok, q⟩
  | brk => obtain ⟨σ', H', J', q⟩ := done; exact ⟨σ', H', J'.ofTry ok, q⟩
  | cont => obtain ⟨σ', H', J', q⟩ := done; exact ⟨σ', H', J'.ofTry ok, q⟩
end
end Dw
namespace Dw
open PySem PySem.Spec PyProof.Rows L2 SX
/-! own exceptions with one field -/
def sp_init (C : Addr) (f : Str) : Sp := fun vs H Q _ => ∃ (a : Addr) (v : V), vs = [.ref a, v] ∧ H a = some (exo a C none) ∧ ∀ dx, H dx = none → dx ≠ a → Q .non (upd (upd H dx (exd dx [(f, v)])) a (exo a C (some dx)))
/-- a class of own exceptions whose __init__ stores its one argument -/
structure ExF (P : Program) (w : World) (K : PySem.W.Frag) (mg : Str → Option Value) (base : Heap) (x : Str) (C : Addr) (f : Str) : Prop where
  T : OexC K C
  g : mg x = some (.ref C)
  xf : XfC K C
  nof : PySem.W.findIn K (.ref C) f = some none
  ini : ∃ (fI : Addr) (fd : FuncData), PySem.W.findIn K (.ref C) "__init__" = some (some (.ref fI)) ∧ PySem.W.typeIn K (.ref fI) = some (.type "function") ∧ FnOk P w K mg base C8.CX0 1 fI fd ["self", f] (sp_init C f) ∧ Binds K fd ["self", f] []
section
variable {X : Cx} {x f : Str} {C : Addr} {k : Nat} {e : Expr} {ta : TA} {p pos : Pos}
theorem pmk_ex (F : ExF X.prog X.w X.K X.mg X.base x C f) (hr : Room k X.A) (hk : 2 ≤ k) (hg : Gl X x) (ha : PA X [e] ta)
    (hdb : (x == ("__debug__" : Str)) = false := by decide) (he : starEach (e :: []) X.env = (false, eval e X.env) :: starEach [] X.env := by rfl) (hpl : (backTo pos (starEach [] X.env)).any (·.1) = false := by rfl) :
    PMk X (.Call (.Name x p) [e] [] pos) (tMkO C (sp_init C f) [] ta) := by
  obtain ⟨fI, fd, h1, h2, h3, h4⟩ := F.ini
  exact pmk_oex F.T h1 h2 h3 (hr.mono hk) h4 .nil C8.pass0 hg F.g ha hdb he hpl
end
theorem raise_ok {C : Addr} {f : Str} {v : V} {H : Hp} {E : XK} (ok : ∀ d H', Same H H' → H d = none → H' d = some (.xd [(f, v)]) → E (.ref C) (some d) H') {a : Addr} (ha : H a = none) :
    sp_init C f [.ref a, v] (upd H a (exo a C none)) (fun v H2 => v = .non ∧ ∃ (d : Addr) (fs : List (Str × V)), H2 a = some (exo a C (some d)) ∧ H2 d = some (exd d fs) ∧ H d = none ∧ E (.ref C) (some d) (upd (del H2 a) d (.xd fs))) (fun _ _ _ => False) := by
  refine ⟨a, v, rfl, upd_same, fun dx hd hne => ⟨rfl, dx, [(f, v)], upd_same, ?_, ?_, ?_⟩⟩
  · rw [upd_ne hne, upd_same]
  · rw [upd_ne hne] at hd
    exact hd
  · have hd0 : H dx = none := by
      rw [upd_ne hne] at hd
      exact hd
    refine ok dx _ (fun b o hb => ?_) hd0 upd_same
    have h1 : b ≠ dx := ne_of_none hb hd0
    have h2 : b ≠ a := ne_of_none hb ha
    rw [upd_ne h1, del_ne h2, upd_ne h2, upd_ne h1, upd_ne h2]
    exact hb
theorem exm_of {K : PySem.W.Frag} {S C : Addr} {b : Bool} (h1 : PySem.W.subIn K (.ref C) (.type "BaseException") = some true) (h2 : PySem.W.isClsIn K C = true) (h3 : PySem.W.typeIn K (.ref C) = some (.type "type")) (h4 : PySem.W.subIn K (.ref S) (.ref C) = some b) :
    PySem.W.exmOne K (.ref S) (.ref C) = some b := by
  have e1 : (PySem.W.subIn K (.ref C) (.type "BaseException") == some true) = true := by rw [h1]; rfl
  have h2' : (PySem.W.clsIn K C).isSome = true := h2
  have e2 : ((PySem.W.clsIn K C).isSome && PySem.W.typeIn K (.ref C) == some (.type "type")) = true := by
    rw [h2', h3]; rfl
  unfold PySem.W.exmOne
  rw [if_pos e1]
  unfold PySem.W.kitCls
  first
    | rw [if_pos e2, h4]
    | simp only [e2, h4, if_true]
/-! defs that may raise -/
structure CalX (P : Program) (w : World) (K : PySem.W.Frag) (mg : Str → Option Value) (base : Heap) (k : Nat) (x : Str) (sp : Sp) : Prop where
  ex : ∃ (f : Addr) (fd : FuncData) (ps : List Str), FnOk P w K mg base (L2.CX P w) k f fd ps sp ∧ mg x = some (.ref f) ∧ PySem.W.keepIn K (.ref f) = true ∧ Binds K fd ps []
section
variable {P : Program} {w : World} {K : PySem.W.Frag} {mg : Str → Option Value} {base : Heap}
theorem calX0 {x : Str} {st : Stmt} {f : Addr} {fd : FuncData} {N ps : List Str} {k : Nat} {sp : Sp} (F : C8.Def K mg x st f fd) (b : Binds K fd ps []) (S : FnScope N ps (C8.fnScope st)) (len : ∀ vs H Q E, sp vs H Q E → vs.length = ps.length)
    (hbody : ∀ (cdv : Value) (A : Around) (outer : List Env) (s : Shared) (H : Hp) (vs : List V) (Q : VK) (E : XK), Room k (A.deeper (envOfC x (C8.fnScope st) s.heap.objs.size f cdv)) → sp vs H Q E →
      ∃ t, PSs (cxOf (L2.CX P w) P w K mg base N x (C8.fnScope st) f cdv A outer s H E) (C8.fnBody st) t ∧ t { nx := fun _ H' => Q .non H', rt := Q } (start N vs) H) : CalX P w K mg base (k + 1) x sp := by
  refine ⟨f, fd, ps, ?_, F.mgf, F.kp, b⟩
  obtain ⟨oc, od, dV, kV, doc, pm, an, cdv, ct, osl, rfl, lk, hcd⟩ := F.fn.ex
  exact fn_of lk hcd S len fun A outer s H vs Q E hr hsp => hbody cdv A outer s H vs Q E hr hsp
end
section
variable {X : Cx} {k j : Nat} {x : Str} {sp : Sp} {p pos : Pos} {e : Expr} {es : List Expr} {t : TA}
/-- its call in a def that lets the same out -/
theorem pe_cx {E : XK} (c : CalX X.prog X.w X.K X.mg X.base k x sp) (hr : Room j X.A) (hk : k ≤ j) (hx : Passes (L2.CX X.prog X.w) X E) (hg : Gl X x) (ha : PA X (e :: es) t)
    (hdb : (x == ("__debug__" : Str)) = false := by decide) (he : starEach (e :: es) X.env = (false, eval e X.env) :: starEach es X.env := by rfl) (hpl : (backTo pos (starEach es X.env)).any (·.1) = false := by rfl) :
    PE X (.Call (.Name x p) (e :: es) [] pos) (tCall sp [] E t) := by
  obtain ⟨f, fd, ps, F, hm, kp, b⟩ := c.ex
  exact pe_call F (hr.mono hk) hg hm kp b .nil hx ha hdb he hpl
/-- its call in a try -/
theorem pe_cs {W : WX} (c : CalX X.prog X.w X.K X.mg X.base k x sp) (hr : Room j X.A) (hk : k ≤ j) (tk : Takes X W) (hg : Gl X x) (ha : PA X (e :: es) t)
    (hdb : (x == ("__debug__" : Str)) = false := by decide) (he : starEach (e :: es) X.env = (false, eval e X.env) :: starEach es X.env := by rfl) (hpl : (backTo pos (starEach es X.env)).any (·.1) = false := by rfl) :
    PE X (.Call (.Name x p) (e :: es) [] pos) (tCallS sp (WE W) t) := by
  obtain ⟨f, fd, ps, F, hm, kp, b⟩ := c.ex
  exact pe_callS F (hr.mono hk) hg hm kp b (fun σ => passAt tk σ) ha hdb he hpl
end
end Dw
namespace Dw
open PySem PySem.Spec PyProof.Rows L2 SX
/-- an own error of class C with this field is let out -/
def Rz (C : Addr) (f : Str) (v : V) (H : Hp) (E : XK) : Prop := ∀ d H', Same H H' → H d = none → H' d = some (.xd [(f, v)]) → E (.ref C) (some d) H'
theorem Rz.same {C : Addr} {f : Str} {v : V} {H H1 : Hp} {E : XK} (h : Rz C f v H E) (e : Same H H1) : Rz C f v H1 E := fun d H' s n x => h d H' (e.trans s) (e.free n) x
theorem raise_rz {C : Addr} {f : Str} {v : V} {H : Hp} {E : XK} (ok : Rz C f v H E) {a : Addr} (ha : H a = none) :
    sp_init C f [.ref a, v] (upd H a (exo a C none)) (fun v H2 => v = .non ∧ ∃ d : Addr, H2 a = some (exo a C (some d)) ∧ ∃ fs : List (Str × V), H2 d = some (exd d fs) ∧ H d = none ∧ E (.ref C) (some d) (upd (del H2 a) d (.xd fs))) (fun _ _ _ => False) := by
  obtain ⟨a1, v1, h1, h2, h3⟩ := raise_ok ok ha
  refine ⟨a1, v1, h1, h2, fun dx hd hne => ?_⟩
  obtain ⟨h4, d, fs, h5, h6, h7, h8⟩ := h3 dx hd hne
  exact ⟨h4, d, h5, fs, h6, h7, h8⟩
theorem hdIn_app {ch a b : List Nat} (h : hdIn ch a = true) : hdIn ch (a ++ b) = true := by
  cases a with
  | nil => cases h
  | cons c r => exact h
theorem hdIn_no {ch ch' a b : List Nat} (h : hdIn ch a = true) (d : ∀ c ∈ ch, c ∉ ch') : hdIn ch' (a ++ b) = false := by
  cases a with
  | nil => cases h
  | cons c r => exact decide_eq_false (d c (of_decide_eq_true h))
end Dw
namespace Dw
open PySem PySem.Spec PyProof.Rows L2 SX
theorem badc_ok : ∀ c ∈ BADC, c ∉ LOW ∧ c ∉ UPP ∧ c ∉ DIG ∧ c ≠ 32 ∧ c ≠ 10 ∧ ∀ s ∈ SGN, s.head? = some c → s = [33, 61] := by decide +kernel
theorem ul_no : ∀ c ∈ UPP, c ∉ LOW ++ DIG := by decide +kernel
theorem lu_no : ∀ c ∈ LOW, c ∉ UPP ++ DIG := by decide +kernel
theorem lud_no : ∀ c ∈ LOW ++ UPP, c ∉ DIG := by decide +kernel
theorem bad_hd {l : List Nat} (h : Bad l) : ∃ c r, l = c :: r ∧ c ≠ 32 ∧ c ≠ 10 := by
  have pick : ∀ {ch a : List Nat}, hdIn ch a = true → ∃ c r, a = c :: r ∧ c ∈ ch := fun {ch a} h => by
    cases a with
    | nil => cases h
    | cons c r => exact ⟨c, r, rfl, of_decide_eq_true h⟩
  cases h with
  | char h => exact ⟨_, [], rfl, (badc_ok _ h).2.2.2.1, (badc_ok _ h).2.2.2.2.1⟩
  | longN h0 h1 h2 h3 => obtain ⟨c, r, e, hc⟩ := pick h0; exact ⟨c, r, e, low_ok c hc⟩
  | longW h0 h1 h2 h3 => obtain ⟨c, r, e, hc⟩ := pick h0; exact ⟨c, r, e, (upp_ok c hc).2⟩
  | mixN h0 h1 h2 h3 h4 h5 => obtain ⟨c, r, e, hc⟩ := pick h0; exact ⟨c, _, by rw [e]; rfl, low_ok c hc⟩
  | mixW h0 h1 h2 h3 h4 h5 => obtain ⟨c, r, e, hc⟩ := pick h0; exact ⟨c, _, by rw [e]; rfl, (upp_ok c hc).2⟩
  | zeros h0 h1 h2 h3 =>
    cases l with
    | nil => cases h0
    | cons c r => exact ⟨c, r, rfl, (dig_ok c (h1 c List.mem_cons_self)).2.2⟩
  | big h0 h1 h2 n h3 h4 =>
    obtain ⟨c, r, e⟩ := cons_of h0
    exact ⟨c, r, e, (dig_ok c (h1 c (by rw [e]; exact List.mem_cons_self))).2.2⟩
  | letr h0 h1 h2 h3 h4 h5 =>
    obtain ⟨c, r, e⟩ := cons_of h0
    exact ⟨c, _, by rw [e]; rfl, (dig_ok c (h1 c (by rw [e]; exact List.mem_cons_self))).2.2⟩
theorem bad_len {l : List Nat} (h : Bad l) : l.length ≤ 30 := by
  cases h with
  | char h => exact (show 1 ≤ 30 by decide)
  | longN h0 h1 h2 h3 => omega
  | longW h0 h1 h2 h3 => omega
  | mixN h0 h1 h2 h3 h4 h5 => rw [List.length_append]; omega
  | mixW h0 h1 h2 h3 h4 h5 => rw [List.length_append]; omega
  | zeros h0 h1 h2 h3 => exact h3
  | big h0 h1 h2 n h3 h4 => exact h2
  | letr h0 h1 h2 h3 h4 h5 => rw [List.length_append]; omega
theorem char_no {c : Nat} {rest : List Nat} (h : c ∈ BADC) (h61 : hdIn [61] rest = false) : ∀ s ∈ SGN, pfx s ([c] ++ rest) = false := by
  intro s hs
  cases hp : pfx s ([c] ++ rest) with
  | false => rfl
  | true =>
    exfalso
    obtain ⟨r, hr⟩ := pfx_iff.mp hp
    obtain ⟨c', s', e⟩ := cons_of (sgn_ok s hs).1
    rw [e] at hr
    have hc : c = c' := (List.cons.inj hr).1
    have := (badc_ok c h).2.2.2.2.2 s hs (by rw [e, hc]; rfl)
    rw [this] at e
    obtain ⟨e1, e2⟩ := List.cons.inj e
    have h2 : rest = s' ++ r := (List.cons.inj hr).2
    rw [← e2] at h2
    rw [h2] at h61
    have h3 : hdIn [61] ([61] ++ r) = true := by
      show decide (61 ∈ [61]) = true
      decide
    rw [h3] at h61
    cases h61
end Dw
namespace Dw
open PySem PySem.Spec PyProof.Rows L2 SX
def GoodsT (tl : List Nat) : List Itm → Prop
  | [] => True
  | x :: r => Piece x.l x.k x.v ∧ Blank x.sp ∧ After x.l (x.sp ++ (iflat r ++ tl)) ∧ GoodsT tl r
theorem GoodsT.append {tl : List Nat} : ∀ {a b : List Itm}, GoodsT tl (a ++ b) → GoodsT tl b
  | [], _, h => h
  | _ :: a, _, h => GoodsT.append (a := a) h.2.2.2
end Dw
namespace Dw
open PySem PySem.Spec PySem.Calls PyProof.Rows PySem.W
/-! isinstance of a caught error that bears a field -/
section
variable {prog : Program} {w : World} {A : Around} {E : Value → Shared → Prop} {s : Shared} {K : Frag} {b C : Addr} {ob : Obj} {od : Option Obj}
theorem fo_data {n : Str} {a g : Value} (h1 : (clsIn K C).isSome = true) (h2 : findIn K (.ref C) n = some (some a)) (h3 : specialIn K a "__get__" = some (some g)) (h4 : takesIn K a = some true) : findObj K C od n = some (.bind g a) := by
  obtain ⟨cd, h1⟩ := Option.isSome_iff_exists.mp h1
  unfold findObj
  rw [h1, Option.bind_some, h2, Option.bind_some]
  simp [h3, h4]
theorem cls_asked {Q : Option Value → Shared → Prop} (T : L2.ExcC K C) (X : K.In s.heap) (I : InstAt s.heap b ob C od) (h : Q (some (.ref C)) { s with toks := s.toks + 1 }) : wpAny (model prog w) A (getAttr? (.ref b) "__class__") Q E s := by
  have found : findObj K C od "__class__" = some (.bind (.builtin "getset_descriptor.__get__") (.builtin "object.__class__")) :=
    fo_data (by obtain ⟨cd, hc, _⟩ := any_some T.hd; rw [hc]; rfl) T.ha T.hn T.ht
  obtain ⟨h0, gs, dr, tk, os⟩ := s
  have M0 := I.type (M := model prog w)
  have M1 := looks_findIn (M := model prog w) X T.hg
  have M2 := looks_findIn (M := model prog w) X T.hk
  have M3 := looks_find (M := model prog w) X I found
  have isb : Looks (model prog w) h0 (isInstance (.ref b) (.type "BaseException")) true := M0.andThen (looks_subIn X T.hs)
  have e0 : (false && onTheHeap (Value.builtin "BaseException.__getattribute__")) = false := rfl
  have e2 : (Value.builtin "BaseException.__getattribute__" == Value.builtin "object.__getattribute__") = false := by decide +kernel
  have e1 : (onTheHeap (Value.ref C) && Value.builtin "BaseException.__getattribute__" == Value.builtin "object.__getattribute__") = false := by rw [e2]; rfl
  unfold getAttr? getAttrBy? getAttrBy
  refine wpAny_bind (wpAny_mkText (wpAny_bind (wpAny_attempt (wpAny_holding (wpAny_bind (M0.at (wpAny_bind (M1.at ?_))))))))
  show wpAny _ _ (if (onTheHeap (Value.ref C) && Value.builtin "BaseException.__getattribute__" == Value.builtin "object.__getattribute__") = true then _ else _) _ _ _
  rw [e1, if_neg Bool.false_ne_true]
  unfold getAttrByItsOwn hookBefore
  refine wpAny_bind ?_
  rw [if_pos (show onTheHeap (Value.ref C) = true from rfl)]
  refine M2.at ?_
  refine wpAny_bind (wpAny_attempt (wpAny_holding ?_))
  unfold callGetattribute
  rw [e0, if_neg Bool.false_ne_true]
  unfold boundAndCalled
  rw [PySem.F.excAttr_ValueError.ga.bind (.ref b)]
  refine wpAny_bind (wpAny_pure ?_)
  show wpAny _ _ (call (.builtin "BaseException.__getattribute__") [.ref b, .str "__class__" tk]) _ _ _
  refine wpAny_call (codeAny_call_builtin PySem.F.excAttr_ValueError.ga.plain PySem.F.entry_bexc_ga ?_)
  refine @check_slot (model prog w) _ _ ⟨h0, gs, dr, tk + 1, os⟩ "BaseException.__getattribute__" "BaseException" "__getattribute__" (.ref b) [.str "__class__" tk] [] _ (by decide +kernel) (by decide +kernel) isb (PySem.F.args_bexc_ga (.ref b) (.str "__class__" tk)) ?_
  unfold Builtin.«object.__getattribute__»
  refine wpAny_bind (wpAny_of_eq (a := ((Value.ref b : Value), [Value.str "__class__" tk])) (by first | rfl | (simp only [slotArgs]; rfl)) ?_)
  refine wpAny_bind (wpAny_pure (wpAny_bind (M0.at (wpAny_bind (M3.at ?_)))))
  show wpAny _ _ (holding [Value.builtin "object.__class__"] (call (.builtin "getset_descriptor.__get__") [.builtin "object.__class__", .ref b, .ref C]) >>= ret) _ _ _
  refine wpAny_bind (wpAny_holding (wpAny_call (class_get (s := ⟨h0, gs, dr, tk + 1, os⟩) (ox := ob) (od := od) X I T.hm ?_)))
  refine wpAny_pure ?_
  show wpAny _ _ (handedOut (.ref C)) _ _ _
  rw [handedOut_of (v := .ref C) rfl]
  first
    | exact wpAny_pure (wpAny_pure h)
    | exact wpAny_pure h
    | exact wpAny_pure (wpAny_bind (wpAny_pure (wpAny_pure h)))
theorem kitx_of (T : L2.ExcC K C) : KitX K (.ref b) (.ref C) (fun h => InstAt h b ob C od) where
  ty := fun _ _ _ I => I.type
  it := fun _ _ X _ => by
    obtain ⟨cd, hc, _⟩ := any_some T.hd
    unfold clsIn at hc
    split at hc
    · rename_i c1 d1 cd1 sl1 ho
      intro A1 Q1 E1 s1 k q
      unfold isType loadHead
      exact wpAny_bind (wpAny_loadPart (k _ _ (X _ _ ho)) (wpAny_pure q))
    · cases hc
  ne := fun h tp dd its n sl X htp => by
    obtain ⟨cd, hc, _⟩ := any_some T.hd
    refine Bool.eq_false_iff.mpr fun q => ?_
    obtain rfl : C = tp := Value.ref.inj (beq_iff_eq.mp q)
    unfold clsIn at hc
    split at hc
    · rename_i c1 d1 cd1 sl1 ho
      have z := (X _ _ ho).symm.trans htp
      cases z
    · cases hc
  ca := fun X I k => cls_asked T X I k
end
open L2
/-- isinstance(e, c), e the caught error of class C with its own dict at d -/
def rIsF (K : PySem.W.Frag) (C a : Addr) (cls : Value) (d : Option Addr) : List V → Hp → VK → Prop := fun xs H Q => ∃ (c : V) (cv : Value) (b : Bool) (dd : Addr) (fs : List (Str × V)), xs = [.ref a, c] ∧ (∀ u, RelV c u → u = cv) ∧ cls = .ref C ∧ d = some dd ∧ H dd = some (.xd fs) ∧ PySem.W.kitOne K (.ref C) cv = some b ∧ Q (.bl b) H
theorem call_isF {X : Cx} {a C : Addr} {oe : Obj} {cls : Value} {d : Option Addr} {pn : List (Addr × Obj)} (T : ExcC X.K C) (hz : Zc cls d oe) (hf : ∃ vs, oe.data = .fields vs) : CallR (X.suite a ((a, oe) :: pn)) (.builtin "isinstance") (rIsF X.K C a cls d) := by
  intro pins s σ H xs us Q I r h
  obtain ⟨c, cv, b, dd, fs, rfl, hcv, rfl, rfl, hdd, e, q⟩ := h
  obtain ⟨u1, r1, rfl, ra, rr⟩ : ∃ u1 r1, us = u1 :: r1 ∧ RelV (.ref a) u1 ∧ Vals [c] r1 := by
    cases r with
    | cons h1 h2 => exact ⟨_, _, rfl, h1, h2⟩
  obtain ⟨u2, rfl, rc⟩ := vals1 rr
  obtain rfl : u1 = Value.ref a := ra
  obtain rfl := hcv _ rc
  obtain ⟨gt, _⟩ := I.pin (a, oe) (List.mem_append_left _ List.mem_cons_self)
  obtain ⟨vs, hv⟩ := hf
  have ok : ObjOk X.prog X.w H s.heap dd (.xd fs) := I.hok dd _ hdd
  obtain ⟨mA, ns, _⟩ := ok
  obtain ⟨od, ho, _⟩ := lookIn_ns ns
  have J : PySem.W.InstAt s.heap a oe C (some od) := ⟨gt, hz.1, by unfold PySem.W.notCls; rw [hv] <;> rfl, by rw [hz.2]; exact ho⟩
  exact PySem.W.kia_one (kitx_of T) I.kIn J e (fun z => nomatch z) fun tk => ⟨.bl b, H, I.kept (t' := tk) fun _ _ z => z, rfl, q⟩
/-- a call that lets nothing out, of a def that may -/
theorem passF {X : Cx} {P : Program} {w : World} : Passes (L2.CX P w) X C8.E0 := fun _ _ _ _ _ _ _ h => by
  obtain ⟨_, _, _, _, _, _, _, _, _, _, _, _, e⟩ := h
  exact e.elim
end Dw
namespace Dw
open PySem PySem.Spec PyProof.Rows L2 SX
/-! max(list, default=d) -/
theorem mxk (a v : Value) : argsOk "max" ⟨[a], [(Str.ofString "default", v)]⟩ := by unfold argsOk; kernel_rfl
theorem mxn : (toString "max" ++ toString ".loop" : String) = "max.loop" := by decide
section
variable {pr : Program} {w : World} {A : Around} {I : Addr} {fp wr : List Addr} {n : Nat} {P : Nat → Value → Prop} {St : Nat → Heap → Prop} {R : Result → Shared → Prop}
/-- what the loop leaves to be shown -/
def MxEnd (P : Nat → Value → Prop) (wr : List Addr) (n : Nat) (bt : Nat → Nat → Bool) (S : Addr) (R : Result → Shared → Prop) (s : Shared) : Prop :=
  ∀ v h' tk, P (argBest bt (n - 1)) v → (∀ b o, b ∉ wr → b ≠ S → s.heap.get? b = some o → h'.get? b = some o) → R (.ok (.ret v)) { s with heap := h', toks := tk }
theorem mx_turn (W : Walks pr w A.in1 I fp wr n P St) (bt : Nat → Nat → Bool) (cm : CmpOf pr w A.in1 .Gt P bt) (d : Value) (S : Addr) (nS : S ∉ fp) :
    ∀ (k j : Nat) (s : Shared) (x : Value) (c : Nat), n - (j + 1) = k → j + 1 ≤ n → St (j + 1) s.heap → P (argBest bt j) x → s.heap.get? S = some ⟨.type "list", none, .seq #[x, x] c, #[]⟩ → MxEnd P wr n bt S R s →
      codeAny (model pr w) A (.builtin "max.loop" ⟨[.ref I, .none, .ref S], [(Str.ofString "default", d)]⟩) R s := by
  have nW : S ∉ wr := fun q => nS (W.sub _ q)
  intro k
  induction k with
  | zero =>
    intro j s x c e0 lj st px hS fin
    have ej : j + 1 = n := by omega
    refine codeAny_builtin PySem.F.entry_max_loop ?_; rw [Around.under_plainId PySem.F.plain_max_loop _]
    show wpAny _ A.in1 (seqItems? (.ref S) >>= _) _ _ s
    refine wpAny_bind (wpAny_seqItems hS rfl (?_ : wpAny _ A.in1 (tryCatch (pyNext (.ref I)) _ >>= _) _ _ s))
    refine wpAny_bind (wpAny_tryCatch (W.done s _ _ (ej ▸ st) fun h1 tk kp => ?_))
    have hS1 := kp S _ nW hS
    refine (wpAny_bind ?_ : wpAny _ A.in1 (updateSeq S (fun _ => #[]) >>= _) _ _ _)
    refine wpAny_updateSeq hS1 rfl (wpAny_bind (wpAny_letGo (wpAny_pure ?_)))
    exact fin x _ tk (by rw [← ej]; exact px) fun b o bw bS q => (Heap.get?_update_other _ _ (Ne.symm bS)).trans (kp b o bw q)
  | succ k ih =>
    intro j s x c e0 lj st px hS fin
    have lt : j + 1 < n := by omega
    refine codeAny_builtin PySem.F.entry_max_loop ?_; rw [Around.under_plainId PySem.F.plain_max_loop _]
    show wpAny _ A.in1 (seqItems? (.ref S) >>= _) _ _ s
    refine wpAny_bind (wpAny_seqItems hS rfl (?_ : wpAny _ A.in1 (tryCatch (pyNext (.ref I)) _ >>= _) _ _ s))
    refine wpAny_bind (wpAny_tryCatch (W.item (j + 1) s _ _ lt st fun y h1 tk py st1 kp => ?_))
    have hS1 := kp S _ nW hS
    refine (wpAny_bind (wpAny_tryCatch (wpAny_holding (wpAny_bind (cm (j + 1) (argBest bt j) y x _ _ _ py px ?_)))) : wpAny _ A.in1 (tryCatch (holding [y, y] (richCompare .Gt y x >>= _)) _ >>= _) _ _ _)
    refine wpAny_bind (wpAny_holding (wpAny_truthy_bool (wpAny_bind (wpAny_letGo (wpAny_pure ?_)))))
    cases hb : bt (j + 1) (argBest bt j) with
    | true =>
      simp only [if_true]
      refine wpAny_bind (wpAny_updateSeq hS1 rfl (wpAny_bind (wpAny_letGo ?_)))
      rw [mxn]
      refine (wpAny_pure ⟨plainId_quiet PySem.F.plain_max_loop _, ih (j + 1) _ y _ (by omega) lt (W.frame _ _ _ st1 fun b bf o q => ?_) (by simp only [argBest, hb, if_true]; exact py) (Heap.get?_update_self _ hS1 rfl) fun v h2 tk2 pv kp2 => ?_⟩)
      · exact (Heap.get?_update_other _ _ (fun q : S = b => nS (q ▸ bf))).trans q
      · exact fin v h2 tk2 pv fun b o bw bS q => kp2 b o bw bS ((Heap.get?_update_other _ _ (Ne.symm bS)).trans (kp b o bw q))
    | false =>
      simp only [Bool.false_eq_true, if_false]
      refine wpAny_bind (wpAny_letGo ?_)
      rw [mxn]
      refine (wpAny_pure ⟨plainId_quiet PySem.F.plain_max_loop _, ih (j + 1) _ x c (by omega) lt st1 (by simp only [argBest, hb, Bool.false_eq_true, if_false]; exact px) hS1 fun v h2 tk2 pv kp2 => ?_⟩)
      exact fin v h2 tk2 pv fun b o bw bS q => kp2 b o bw bS (kp b o bw q)
theorem mx_first (W : Walks pr w A.in1 I fp wr n P St) (bt : Nat → Nat → Bool) (cm : CmpOf pr w A.in1 .Gt P bt) (d : Value) (S : Addr) (nS : S ∉ fp) {s : Shared} {c : Nat} (st : St 0 s.heap) (hS : s.heap.get? S = some ⟨.type "list", none, .seq #[] c, #[]⟩)
    (no : n = 0 → ∀ h' tk, (∀ b o, b ∉ wr → b ≠ S → s.heap.get? b = some o → h'.get? b = some o) → R (.ok (.ret d)) { s with heap := h', toks := tk })
    (fin : 0 < n → MxEnd P wr n bt S R s) :
    codeAny (model pr w) A (.builtin "max.loop" ⟨[.ref I, .none, .ref S], [(Str.ofString "default", d)]⟩) R s := by
  have nW : S ∉ wr := fun q => nS (W.sub _ q)
  refine codeAny_builtin PySem.F.entry_max_loop ?_; rw [Around.under_plainId PySem.F.plain_max_loop _]
  show wpAny _ A.in1 (seqItems? (.ref S) >>= _) _ _ s
  refine wpAny_bind (wpAny_seqItems hS rfl (?_ : wpAny _ A.in1 (tryCatch (pyNext (.ref I)) _ >>= _) _ _ s))
  rcases Nat.eq_zero_or_pos n with h0 | h0
  · subst h0
    refine wpAny_bind (wpAny_tryCatch (W.done s _ _ st fun h1 tk kp => ?_))
    refine (wpAny_bind (wpAny_rule ?_) : wpAny _ A.in1 (rule _ >>= _) _ _ _)
    exact wpAny_pure (no rfl h1 tk fun b o bw bS q => kp b o bw q)
  · refine wpAny_bind (wpAny_tryCatch (W.item 0 s _ _ h0 st fun y h1 tk py st1 kp => ?_))
    have hS1 := kp S _ nW hS
    refine (wpAny_bind ?_ : wpAny _ A.in1 (updateSeq S (fun _ => #[y, y]) >>= _) _ _ _)
    refine wpAny_updateSeq hS1 rfl ?_
    rw [mxn]
    refine (wpAny_pure ⟨plainId_quiet PySem.F.plain_max_loop _, mx_turn W bt cm d S nS _ 0 _ y _ rfl h0 (W.frame _ _ _ st1 fun b bf o q => ?_) py (Heap.get?_update_self _ hS1 rfl) fun v h2 tk2 pv kp2 => ?_⟩)
    · exact (Heap.get?_update_other _ _ (fun q : S = b => nS (q ▸ bf))).trans q
    · exact fin h0 v h2 tk2 pv fun b o bw bS q => kp2 b o bw bS ((Heap.get?_update_other _ _ (Ne.symm bS)).trans (kp b o bw q))
theorem mx_ints {E : Value → Shared → Prop} {s : Shared} {l : Addr} {xs : Array (Int × Tok)} {d : Value} {Q : Value → Shared → Prop} (hh : A.handled = none) (hl : s.heap.IsList l (intItems xs))
    (no : xs.size = 0 → ∀ h' tk, (∀ b o, s.heap.get? b = some o → h'.get? b = some o) → Q d { s with heap := h', toks := tk })
    (fin : ∀ v h' tk, 0 < xs.size → (intItems xs)[argBest (fun i j => decide (numAt xs i > numAt xs j)) (xs.size - 1)]? = some v → (∀ b o, s.heap.get? b = some o → h'.get? b = some o) → Q v { s with heap := h', toks := tk }) :
    wpAny (model pr w) A (call (.builtin "max") [.ref l] [(Str.ofString "default", d)]) Q E s := by
  refine PyProof.Rows.kmb_tree PySem.F.kind_max PySem.F.plain_max PySem.F.entry_max (mxk _ _) ?_
  have hlt : l < s.heap.objs.size := let ⟨_, e, _⟩ := hl; Heap.lt_size e
  refine (wpAny_bind (wpAny_of_eq (show Builtin.Builtins.bindParams "max" ["key", "default"] 0 ⟨[], [(Str.ofString "default", d)]⟩ = pure [none, some d] from rfl) ?_) : wpAny _ A.in1 (Builtin.Builtins.bindParams "max" ["key", "default"] 0 ⟨[], [(Str.ofString "default", d)]⟩ >>= _) _ _ s)
  refine wpAny_bind (wpAny_pure (wpAny_bind (iter_intList hl fun s2 e st bd nl => ?_)))
  subst e
  refine wpAny_bind (wpAny_newObj_type ?_)
  rw [mxn]
  refine wpAny_pure ⟨plainId_quiet PySem.F.plain_max_loop _, ?_⟩
  have W := Walks.list (prog := pr) (w := w) (A := A.in1) hh s.heap.objs.size l nl (intItems xs)
  have sz : (intItems xs).size = xs.size := by simp [intItems]
  have old := fun {h' : Heap} kp => old_kept (s := s) (l := l) (h' := h') kp
  have nS : (s.heap.push { cls := .type "list_iterator", data := .fields #[.ref l, .int 0 0] }).objs.size ∉ [s.heap.objs.size, l] := fun hm => Nat.lt_irrefl _ (bd _ hm)
  refine mx_first W (fun i j => decide (numAt xs i > numAt xs j)) (CmpOf.ints_gt (numAt xs) fun _ _ => intItems_at) d _ nS (W.frame _ _ _ st fun b _ o q => Heap.get?_push_of_some _ q) (Heap.get?_push_size _ rfl) (fun z h' tk kp => ?_) fun z v h' tk pv kp => ?_
  · exact no (sz ▸ z) h' tk (old fun b o bw q => kp b o bw (Nat.ne_of_lt (Heap.lt_size q)) (Heap.get?_push_of_some _ q))
  · exact fin v h' tk (sz ▸ z) (by rw [sz] at pv; exact pv) (old fun b o bw q => kp b o bw (Nat.ne_of_lt (Heap.lt_size q)) (Heap.get?_push_of_some _ q))
end
/-- max of a list of ints, with a default -/
def rMaxDf (K : PySem.W.Frag) : List V → List V → Hp → VK → Prop := fun vs zs H Q => ∃ (a : Addr) (ns : List Int) (d : Int), vs = [V.ref a] ∧ zs = [.int d] ∧ SqL K H a (ns.map V.int) ∧ ∀ m, ((ns = [] ∧ m = d) ∨ m ∈ ns) → (∀ y ∈ ns, y ≤ m) → Q (.int m) H
theorem cr_maxDf {X : Cx} (K : PySem.W.Frag) (hc : X.calm = true := by rfl) (hK : X.K = K := by rfl) : CallRK X (.builtin "max") ["default"] (rMaxDf K) := by
  subst hK
  intro pins s σ H xs zs us ws Q I r rz h
  obtain ⟨a, ns, d, rfl, rfl, hs, q⟩ := h
  obtain ⟨its, rv, hl, _⟩ := I.list hs
  rw [Vals.ref1 r]
  cases rz with
  | cons e er =>
  cases er
  obtain ⟨td, rfl⟩ := e
  obtain ⟨xs, e⟩ := rv.ints.allInts.items
  have hn : numsOf (intItems xs).toList = ns := by rw [← e]; exact rv.ints.numsOf
  rw [nums_intItems] at hn
  have hl2 := hl.isList
  rw [e] at hl2
  subst hn
  refine mx_ints (I.ok.hd hc) hl2 (fun z h' tk hk => ?_) fun v h' tk z hv hk => ?_
  · have ez : xs = #[] := Array.eq_empty_of_size_eq_zero z
    subst ez
    exact ⟨.int d, H, I.kept hk, ⟨_, rfl⟩, q d (.inl ⟨rfl, rfl⟩) (fun y hy => nomatch hy)⟩
  · obtain ⟨t, rfl⟩ := intItems_at hv
    obtain ⟨h1, h2⟩ := argBest_gt (numAt xs) (xs.size - 1)
    refine ⟨.int _, H, I.kept hk, ⟨_, rfl⟩, q _ (.inr ?_) fun y hy => ?_⟩
    · rw [numAt_eq]; exact PySem.getD_mem (by rw [List.length_map, Array.length_toList]; omega)
    · obtain ⟨j, hj, rfl⟩ := mem_getD hy
      rw [List.length_map, Array.length_toList] at hj
      rw [← numAt_eq]; exact h2 j (by omega)
end Dw
namespace Dw
open PySem PySem.Spec PyProof.Rows L2 SX
abbrev nv (n : Nat) : V := .int (n : Int)
/-! digits and the numbers that they stand for -/
def lo : List Nat → Nat
  | [] => 0
  | d :: r => d + 2 * lo r
def Bits (ds : List Nat) : Prop := ∀ d ∈ ds, d < 2
theorem lo_app : ∀ a b : List Nat, lo (a ++ b) = lo a + 2 ^ a.length * lo b
  | [], b => by simp [lo]
  | d :: a, b => by
    show d + 2 * lo (a ++ b) = d + 2 * lo a + 2 ^ (a.length + 1) * lo b
    rw [lo_app a b, Nat.pow_succ, Nat.mul_add, Nat.mul_comm (2 ^ a.length) 2, Nat.mul_assoc]
    omega
theorem lo_lt : ∀ {ds : List Nat}, Bits ds → lo ds < 2 ^ ds.length
  | [], _ => by simp [lo]
  | d :: r, h => by
    have h1 := lo_lt (ds := r) fun x hx => h x (List.mem_cons_of_mem _ hx)
    have h2 := h d List.mem_cons_self
    show d + 2 * lo r < 2 ^ (r.length + 1)
    rw [Nat.pow_succ]
    omega
theorem lo_bit : ∀ {ds : List Nat} (k : Nat), Bits ds → lo ds / 2 ^ k % 2 = ds.getD k 0
  | [], k, _ => by simp [lo]
  | d :: r, 0, h => by
    have h2 := h d List.mem_cons_self
    show (d + 2 * lo r) / 1 % 2 = d
    omega
  | d :: r, k + 1, h => by
    have h1 := lo_bit (ds := r) k fun x hx => h x (List.mem_cons_of_mem _ hx)
    have h2 := h d List.mem_cons_self
    show (d + 2 * lo r) / 2 ^ (k + 1) % 2 = r.getD k 0
    rw [Nat.pow_succ, Nat.mul_comm (2 ^ k) 2, ← Nat.div_div_eq_div_mul]
    have : (d + 2 * lo r) / 2 = lo r := by omega
    rw [this, h1]
def bitsL (n w : Nat) : List Nat := (List.range w).map fun k => n / 2 ^ k % 2
theorem bitsL_len (n w : Nat) : (bitsL n w).length = w := by simp [bitsL]
theorem bitsL_bits (n w : Nat) : Bits (bitsL n w) := fun d h => by
  obtain ⟨k, _, rfl⟩ := List.mem_map.mp h
  exact Nat.mod_lt _ (by decide)
theorem bitsL_zero (w : Nat) : bitsL 0 w = List.replicate w 0 := by
  refine List.ext_getElem (by simp [bitsL]) fun i h1 h2 => ?_
  simp [bitsL]
theorem bitsL_succ (n w : Nat) : bitsL n (w + 1) = n % 2 :: bitsL (n / 2) w := by
  unfold bitsL
  rw [List.range_succ_eq_map, List.map_cons, List.map_map]
  congr 1
  · simp
  · refine List.map_congr_left fun k _ => ?_
    show n / 2 ^ (k + 1) % 2 = n / 2 / 2 ^ k % 2
    rw [Nat.pow_succ, Nat.mul_comm, Nat.div_div_eq_div_mul]
theorem lo_bitsL : ∀ (n w : Nat), lo (bitsL n w) = n % 2 ^ w
  | n, 0 => by simp [bitsL, lo, Nat.mod_one]
  | n, w + 1 => by
    rw [bitsL_succ]
    show n % 2 + 2 * lo (bitsL (n / 2) w) = _
    rw [lo_bitsL (n / 2) w, Nat.pow_succ, Nat.mul_comm (2 ^ w) 2, Nat.mod_mul]
theorem lo_bitsL_of {n w : Nat} (h : n < 2 ^ w) : lo (bitsL n w) = n := by rw [lo_bitsL, Nat.mod_eq_of_lt h]
theorem bitsL_lo {ds : List Nat} (h : Bits ds) : bitsL (lo ds) ds.length = ds := by
  refine List.ext_getElem (by simp [bitsL]) fun i h1 h2 => ?_
  simp only [bitsL, List.getElem_map, List.getElem_range]
  rw [lo_bit i h, List.getD_eq_getElem?_getD, List.getElem?_eq_getElem h2]
  rfl
/-- the sum of the digits' values -/
theorem lo_sum : ∀ (ds : List Nat) (m : Nat), ((List.range ds.length).map fun i => ((ds.getD i 0 : Nat) : Int) * 2 ^ (i + m)).sum = (lo ds : Int) * 2 ^ m
  | [], m => by simp [lo]
  | d :: r, m => by
    rw [List.length_cons, List.range_succ_eq_map, List.map_cons, List.map_map, List.sum_cons]
    have h := lo_sum r (m + 1)
    have e : (List.map ((fun i => (((d :: r).getD i 0 : Nat) : Int) * 2 ^ (i + m)) ∘ Nat.succ) (List.range r.length)) = (List.range r.length).map fun i => ((r.getD i 0 : Nat) : Int) * 2 ^ (i + (m + 1)) := by
      refine List.map_congr_left fun i _ => ?_
      show ((((d :: r).getD (i + 1) 0 : Nat)) : Int) * 2 ^ (i + 1 + m) = _
      rw [show i + 1 + m = i + (m + 1) by omega]
      rfl
    rw [e, h]
    show ((d : Nat) : Int) * 2 ^ (0 + m) + (lo r : Int) * 2 ^ (m + 1) = ((d + 2 * lo r : Nat) : Int) * 2 ^ m
    rw [Nat.zero_add, Int.pow_succ, Int.natCast_add, Int.natCast_mul, Int.add_mul]
    have : (lo r : Int) * (2 ^ m * 2) = ((2 : Nat) : Int) * (lo r : Int) * 2 ^ m := by
      rw [Int.mul_comm ((2 : Nat) : Int), Int.mul_assoc, Int.mul_comm (2 ^ m) 2]
      rfl
    rw [this]
/-! words -/
def blen (n : Nat) : Nat := Builtin.Int.intBits (n : Int)
theorem blen_zero : blen 0 = 0 := rfl
theorem blen_pos {n : Nat} (h : n ≠ 0) : blen n = n.log2 + 1 := by
  unfold blen Builtin.Int.intBits
  rw [if_neg (by simpa using h), Int.natAbs_natCast]
theorem lt_blen (n : Nat) : n < 2 ^ blen n := by
  by_cases h : n = 0
  · subst h; decide
  · rw [blen_pos h]; exact Nat.lt_log2_self
theorem blen_le {n k : Nat} (h : n < 2 ^ k) : blen n ≤ k := by
  by_cases h0 : n = 0
  · subst h0; exact Nat.zero_le _
  · rw [blen_pos h0]
    exact Nat.succ_le_of_lt ((Nat.log2_lt h0).mpr h)
theorem blen_top {n : Nat} (h : n ≠ 0) : n / 2 ^ (blen n - 1) % 2 = 1 := by
  rw [blen_pos h, Nat.add_sub_cancel]
  have h1 := Nat.log2_self_le h
  have h2 : n < 2 ^ (n.log2 + 1) := Nat.lt_log2_self
  rw [Nat.pow_succ] at h2
  have hp : 0 < 2 ^ n.log2 := Nat.two_pow_pos _
  have : n / 2 ^ n.log2 = 1 := by
    refine Nat.div_eq_of_lt_le ?_ ?_
    · rw [Nat.one_mul]; exact h1
    · rw [Nat.mul_comm]; omega
  rw [this]
def bls : List Nat → Nat
  | [] => 0
  | n :: r => max (blen n) (bls r)
theorem bls_le {ns : List Nat} {k : Nat} (h : ∀ n ∈ ns, n < 2 ^ k) : bls ns ≤ k := by
  induction ns with
  | nil => exact Nat.zero_le _
  | cons n r ih => exact Nat.max_le.mpr ⟨blen_le (h n List.mem_cons_self), ih fun x hx => h x (List.mem_cons_of_mem _ hx)⟩
theorem le_bls {ns : List Nat} {n : Nat} (h : n ∈ ns) : blen n ≤ bls ns := by
  induction ns with
  | nil => cases h
  | cons m r ih =>
    rcases List.mem_cons.mp h with rfl | h
    · exact Nat.le_max_left _ _
    · exact Nat.le_trans (ih h) (Nat.le_max_right _ _)
theorem bls_mem {ns : List Nat} (h : ns ≠ []) : ∃ n ∈ ns, blen n = bls ns := by
  induction ns with
  | nil => exact absurd rfl h
  | cons m r ih =>
    by_cases hr : r = []
    · subst hr
      exact ⟨m, List.mem_cons_self, by simp [bls]⟩
    · obtain ⟨n, hn, e⟩ := ih hr
      rcases Nat.le_total (blen m) (bls r) with q | q
      · exact ⟨n, List.mem_cons_of_mem _ hn, by rw [e]; exact (Nat.max_eq_right q).symm⟩
      · exact ⟨m, List.mem_cons_self, (Nat.max_eq_left q).symm⟩
theorem bls_max {ns : List Nat} {m : Int} (h : (ns.map (fun n => ((blen n : Nat) : Int)) = [] ∧ m = 0) ∨ m ∈ ns.map fun n => ((blen n : Nat) : Int)) (hm : ∀ y ∈ ns.map (fun n => ((blen n : Nat) : Int)), y ≤ m) : m = (bls ns : Nat) := by
  rcases h with ⟨h, rfl⟩ | h
  · rw [List.map_eq_nil_iff.mp h]; rfl
  · obtain ⟨n, hn, rfl⟩ := List.mem_map.mp h
    obtain ⟨k, hk, e⟩ := bls_mem (ns := ns) (fun z => by rw [z] at hn; cases hn)
    have h1 := hm _ (List.mem_map.mpr ⟨k, hk, rfl⟩)
    have h2 := le_bls hn
    omega
def bitAt (ns : List Nat) (k : Nat) : List Nat := ns.map fun n => n / 2 ^ k % 2
theorem bitAt_bits (ns : List Nat) (k : Nat) : Bits (bitAt ns k) := fun d h => by
  obtain ⟨n, _, rfl⟩ := List.mem_map.mp h
  exact Nat.mod_lt _ (by decide)
theorem bitAt_len (ns : List Nat) (k : Nat) : (bitAt ns k).length = ns.length := by simp [bitAt]
def wd (ns : List Nat) : List Nat := (List.range (bls ns)).map fun k => lo (bitAt ns k)
theorem wd_len (ns : List Nat) : (wd ns).length = bls ns := by simp [wd]
theorem wd_get {ns : List Nat} {k : Nat} (h : k < bls ns) : (wd ns)[k]? = some (lo (bitAt ns k)) := by simp [wd, h]
theorem wd_lt {ns : List Nat} {l : Nat} (h : l ∈ wd ns) : l < 2 ^ ns.length := by
  obtain ⟨k, _, rfl⟩ := List.mem_map.mp h
  have := lo_lt (bitAt_bits ns k)
  rwa [bitAt_len] at this
theorem bitAt_ge {ns : List Nat} {k : Nat} (h : bls ns ≤ k) : bitAt ns k = List.replicate ns.length 0 := by
  refine List.ext_getElem (by simp [bitAt]) fun i h1 h2 => ?_
  simp only [bitAt, List.getElem_map, List.getElem_replicate]
  have h3 : i < ns.length := by simpa [bitAt] using h1
  have h4 : ns[i] < 2 ^ k := Nat.lt_of_lt_of_le (lt_blen _) (Nat.pow_le_pow_right (by decide) (Nat.le_trans (le_bls (List.getElem_mem h3)) h))
  rw [Nat.div_eq_of_lt h4]
theorem lo_zeros : ∀ w : Nat, lo (List.replicate w 0) = 0
  | 0 => rfl
  | w + 1 => by
    show 0 + 2 * lo (List.replicate w 0) = 0
    rw [lo_zeros w]
theorem lo_bitAt_ge {ns : List Nat} {k : Nat} (h : bls ns ≤ k) : lo (bitAt ns k) = 0 := by rw [bitAt_ge h, lo_zeros]
theorem lo_ne : ∀ {ds : List Nat}, (∃ d ∈ ds, d ≠ 0) → lo ds ≠ 0
  | [], ⟨_, h, _⟩ => nomatch h
  | x :: r, ⟨d, h, hd⟩ => by
    show x + 2 * lo r ≠ 0
    rcases List.mem_cons.mp h with rfl | h
    · omega
    · have := lo_ne ⟨d, h, hd⟩
      omega
theorem wd_snoc {ns : List Nat} (h : 0 < bls ns) : ∃ r, wd ns = r ++ [lo (bitAt ns (bls ns - 1))] := by
  obtain ⟨n, e⟩ : ∃ n, bls ns = n + 1 := ⟨bls ns - 1, by omega⟩
  refine ⟨(List.range n).map fun k => lo (bitAt ns k), ?_⟩
  unfold wd
  rw [e, List.range_succ, List.map_append]
  rfl
theorem wd_last {ns : List Nat} (h : 0 < bls ns) : lo (bitAt ns (bls ns - 1)) ≠ 0 := by
  obtain ⟨n, hn, e⟩ := bls_mem (ns := ns) (fun z => by rw [z] at h; exact absurd h (by decide))
  have n0 : n ≠ 0 := fun z => by
    rw [z, blen_zero] at e
    omega
  refine lo_ne ⟨n / 2 ^ (bls ns - 1) % 2, List.mem_map.mpr ⟨n, hn, rfl⟩, ?_⟩
  rw [← e, blen_top n0]
  decide
def un (word : List Nat) (w : Nat) : List Nat := (List.range w).map fun t => lo (bitAt word t)
theorem bitAt_wd (ns : List Nat) (z t : Nat) (ht : t < ns.length) : lo (bitAt (wd ns ++ List.replicate z 0) t) = ns[t] := by
  have e : bitAt (wd ns ++ List.replicate z 0) t = bitsL ns[t] (bls ns) ++ List.replicate z 0 := by
    unfold bitAt
    rw [List.map_append, List.map_replicate, Nat.zero_div]
    congr 1
    unfold wd bitsL
    rw [List.map_map]
    refine List.map_congr_left fun k _ => ?_
    show lo (bitAt ns k) / 2 ^ t % 2 = _
    rw [lo_bit t (bitAt_bits ns k), List.getD_eq_getElem?_getD, bitAt, List.getElem?_map, List.getElem?_eq_getElem ht]
    rfl
  rw [e, lo_app, lo_zeros, Nat.mul_zero, Nat.add_zero]
  exact lo_bitsL_of (Nat.lt_of_lt_of_le (lt_blen _) (Nat.pow_le_pow_right (by decide) (le_bls (List.getElem_mem ht))))
theorem un_wd (ns : List Nat) (z : Nat) : un (wd ns ++ List.replicate z 0) ns.length = ns := by
  refine List.ext_getElem (by simp [un]) fun i h1 h2 => ?_
  simp only [un, List.getElem_map, List.getElem_range]
  exact bitAt_wd ns z i h2
/-! letters with a track more -/
def wt (l t v : Nat) : Nat := l % 2 ^ t + 2 ^ t * (v + 2 * (l / 2 ^ t))
theorem wt_mod {l t v : Nat} : wt l t v % 2 ^ t = l % 2 ^ t := by
  unfold wt
  rw [Nat.add_mul_mod_self_left, Nat.mod_mod]
theorem wt_div {l t v : Nat} : wt l t v / 2 ^ t = v + 2 * (l / 2 ^ t) := by
  unfold wt
  have hp : 0 < 2 ^ t := Nat.two_pow_pos _
  rw [Nat.add_mul_div_left _ _ hp, Nat.div_eq_of_lt (Nat.mod_lt _ hp), Nat.zero_add]
theorem wt_or {l t v : Nat} (hv : v < 2) : (l % 2 ^ t ||| v * 2 ^ t) ||| l / 2 ^ t * 2 ^ (t + 1) = wt l t v := by
  have hp : 0 < 2 ^ t := Nat.two_pow_pos _
  have h1 : l % 2 ^ t < 2 ^ t := Nat.mod_lt _ hp
  have e1 : l % 2 ^ t ||| v * 2 ^ t = 2 ^ t * v + l % 2 ^ t := by
    rw [Nat.or_comm, Nat.mul_comm, Nat.two_pow_add_eq_or_of_lt h1]
  have h2 : 2 ^ t * v + l % 2 ^ t < 2 ^ (t + 1) := by
    rw [Nat.pow_succ]
    have : 2 ^ t * v ≤ 2 ^ t * 1 := Nat.mul_le_mul_left _ (by omega)
    omega
  rw [e1, Nat.or_comm, Nat.mul_comm (l / 2 ^ t), ← Nat.two_pow_add_eq_or_of_lt h2, Nat.pow_succ]
  unfold wt
  rw [Nat.mul_add, Nat.mul_assoc]
  omega
def wo (l t : Nat) : Nat := l % 2 ^ t + 2 ^ t * (l / 2 ^ (t + 1))
theorem wo_or {l t : Nat} : (l % 2 ^ t ||| l / 2 ^ (t + 1) * 2 ^ t) = wo l t := by
  have hp : 0 < 2 ^ t := Nat.two_pow_pos _
  have h1 : l % 2 ^ t < 2 ^ t := Nat.mod_lt _ hp
  unfold wo
  rw [Nat.or_comm, Nat.mul_comm, ← Nat.two_pow_add_eq_or_of_lt h1]
  omega
theorem wo_wt {l t v : Nat} (hv : v < 2) : wo (wt l t v) t = l := by
  unfold wo
  rw [wt_mod, Nat.pow_succ, ← Nat.div_div_eq_div_mul, wt_div]
  have : (v + 2 * (l / 2 ^ t)) / 2 = l / 2 ^ t := by omega
  rw [this, Nat.mod_add_div]
theorem wt_lo {l w t v : Nat} (hl : l < 2 ^ w) (ht : t ≤ w) : lo ((bitsL l w).take t ++ [v] ++ (bitsL l w).drop t) = wt l t v := by
  have e1 : (bitsL l w).take t = bitsL l t := by
    unfold bitsL
    rw [← List.map_take, List.take_range, Nat.min_eq_left ht]
  have e2 : lo ((bitsL l w).drop t) = l / 2 ^ t := by
    have h := lo_app ((bitsL l w).take t) ((bitsL l w).drop t)
    rw [List.take_append_drop, lo_bitsL_of hl, e1, lo_bitsL, bitsL_len] at h
    have h2 := Nat.mod_add_div l (2 ^ t)
    have hp : 0 < 2 ^ t := Nat.two_pow_pos _
    have h3 : 2 ^ t * lo ((bitsL l w).drop t) = 2 ^ t * (l / 2 ^ t) := by omega
    exact Nat.eq_of_mul_eq_mul_left hp h3
  rw [lo_app, lo_app, e2, e1, lo_bitsL, List.length_append, bitsL_len]
  show l % 2 ^ t + 2 ^ t * (v + 2 * 0) + 2 ^ (t + 1) * (l / 2 ^ t) = wt l t v
  unfold wt
  rw [Nat.pow_succ, Nat.mul_add, Nat.mul_add, Nat.mul_assoc]
  omega
/-! the same of Python's ints -/
theorem i_dig (n k : Nat) : Builtin.bitAnd ((n : Int) / 2 ^ k) 1 = ((n / 2 ^ k % 2 : Nat) : Int) := by
  have e : (n : Int) / 2 ^ k = ((n / 2 ^ k : Nat) : Int) := by rw [Int.natCast_ediv, PySem.W.kbt_cast]
  have h := PySem.W.kbt_mask ((n : Int) / 2 ^ k) 1
  rw [show ((2 : Int) ^ 1 - 1) = 1 by decide, show ((2 : Int) ^ 1) = 2 by decide] at h
  rw [h, e, Int.natCast_emod]
  rfl
theorem i_low (n k : Nat) : Builtin.bitAnd (n : Int) (2 ^ k - 1) = ((n % 2 ^ k : Nat) : Int) := by
  rw [PySem.W.kbt_mask, Int.natCast_emod, PySem.W.kbt_cast]
theorem i_or (a b : Nat) : Builtin.bitOr (a : Int) (b : Int) = ((a ||| b : Nat) : Int) := by
  rw [bitOr_nn (Int.natCast_nonneg _) (Int.natCast_nonneg _), Int.toNat_natCast, Int.toNat_natCast]
theorem i_shl (a k : Nat) : (a : Int) * 2 ^ k = ((a * 2 ^ k : Nat) : Int) := by rw [Int.natCast_mul, PySem.W.kbt_cast]
theorem i_shr (a k : Nat) : (a : Int) / 2 ^ k = ((a / 2 ^ k : Nat) : Int) := by rw [Int.natCast_ediv, PySem.W.kbt_cast]
theorem i_one (k : Nat) : (1 : Int) * 2 ^ k = ((2 ^ k : Nat) : Int) := by rw [Int.one_mul, PySem.W.kbt_cast]
theorem shlN {n k b : Nat} (h : n < 2 ^ b) (hb : b + k ≤ 134217728) : CShl (n : Int) (k : Int) := shl_ok (by rw [Int.natAbs_natCast]; exact h) hb
/-! a comprehension without a test: a new list of what each turn gives -/
theorem lc_map {J : It} {n : Nat} {G : Hp → Prop} {Y : Nat → Hp → V → Hp → Prop} (w : Walk J n G Y) {g : TG} {te : TE} {vs : List Nat} {σ : L2.St} {H1 : Hp} {D : Addr} {Qd : Hp → Prop} (out : Nat → V) (hn : n ≤ 10000) (hD : H1 D = none)
    (hG : ∀ H, Same H1 H → G H)
    (hs : ∀ i x H H' (N : VK), i < n → Same H1 H → Y i H x H' → (∀ H2, Same H H2 → N (out i) H2) → g x (wipe σ vs) H' fun σ2 H2 => wipe σ2 vs = wipe σ vs ∧ te σ2 H2 N)
    (hd : ∀ H, Same H1 H → H D = some (.lst ((List.range n).map out)) → Qd H) : LcJ J g tYes te vs D σ H1 Qd := by
  refine lc_it w (fun i H => Same H1 H ∧ H D = some (.lst ((List.range i).map out))) ⟨same_upd hD, upd_same⟩ (fun i H _ p => hG H p.1) (fun i x H H' hi p y => ?_) fun H p => hd H p.1 p.2
  obtain ⟨s1, hDl⟩ := p
  refine hs i x H H' (fun y H4 => ∃ acc, H4 D = some (.lst acc) ∧ acc.length < sizeLine ∧ (Same H1 (upd H4 D (.lst (acc ++ [y]))) ∧ (upd H4 D (.lst (acc ++ [y]))) D = some (.lst ((List.range (i + 1)).map out)))) hi s1 y fun H2 s2 => ⟨_, s2 _ _ hDl, by rw [List.length_map, List.length_range]; exact smallt (by omega), Dw.Same.new (s1.trans s2) hD, ?_⟩
  rw [upd_same, List.range_succ, List.map_append]
  rfl
theorem blkOk_nm {N : List Str} {sc scope : Scope} {own : List (Str × Nat)} (nm : List (Str × NameKind)) (e : sc.names = nm) (h : blkC N ⟨.function, nm, false, false, []⟩ scope own = true) : BlkOk N sc scope own := by
  refine blkOk_by ?_
  unfold blkC at h ⊢
  rw [e]
  exact h
theorem sameT {K : PySem.W.Frag} {H H' : Hp} {a : Addr} {xs : List V} (s : Same H H') (h : SqT K H a xs) : SqT K H' a xs := by
  rcases h with (h | ⟨o, h⟩) | h
  · exact .inl (.inl (s _ _ h))
  · exact .inl (.inr ⟨o, s _ _ h⟩)
  · exact .inr h
theorem yat_i {xs : List V} {i : Nat} {H H' : Hp} {x : V} (h : YAt xs i H x H') : H' = H ∧ xs[i]? = some x := h
section
variable {X : Cx} (K : PySem.W.Frag)
theorem piL {tg l : Expr} {tl : TE} (hl : PE X l tl) (h : X.K = K := by rfl) : PI X tg l (iList K tl) := h ▸ pi_list hl
theorem piT {tg l : Expr} {tl : TE} (hl : PE X l tl) (h : X.K = K := by rfl) : PI X tg l (iTup K tl) := h ▸ pi_tup hl
theorem piE {e : Expr} {ta : TA} {p pos tpos : Pos} {elts : List Expr} {kk : Nat} (hg : Gl X "enumerate") (hm : X.mg "enumerate" = none) (ha : PA X [e] ta) (hs : starEach [e] X.env = [(false, eval e X.env)] := by rfl) (h : X.K = K := by rfl) :
    PI X (.Tuple elts kk tpos) (.Call (.Name "enumerate" p) [e] [] pos) (iEnum K ta) := h ▸ pi_enum hg hm ha hs
theorem sumK (hc : X.calm = true := by rfl) (h : X.K = K := by rfl) : CallR X (.builtin "sum") (rSum K) := h ▸ cr_sum hc
end
end Dw
namespace Dw
open PySem PySem.Spec PyProof.Rows L2 SX
/-- the drawing's own list at p, over the script at q -/
def Draw (K : PySem.W.Frag) (H : Hp) (p q : Addr) (ns : List Int) : Prop := (∀ H', But p H H' → SqL K H' q (ns.map V.int)) ∧ ∃ a v x : Int, H p = some (.lst [.ref q, .int a, .int v, .int x]) ∧ 0 ≤ a ∧ 0 ≤ v
theorem Draw.same {K : PySem.W.Frag} {H H' : Hp} {p q : Addr} {ns : List Int} (h : Draw K H p q ns) (e : Same H H') : Draw K H' p q ns := by
  obtain ⟨hq, a, v, x, hp, h0, h1⟩ := h
  exact ⟨fun H2 b => hq H2 ((But.of e).trans b), a, v, x, e _ _ hp, h0, h1⟩
theorem Draw.ne {K : PySem.W.Frag} {H : Hp} {p q t : Addr} {ns : List Int} (h : Draw K H p q ns) (ht : H t = none) : t ≠ p := by
  obtain ⟨_, _, _, _, hp, _⟩ := h
  exact (ne_of_none hp ht).symm
/-- a store at an address that was free before -/
theorem Draw.put {K : PySem.W.Frag} {H0 H : Hp} {p q t : Addr} {ns : List Int} {o : HO} (d : Draw K H0 p q ns) (b : But p H0 H) (h : Draw K H p q ns) (ht : H0 t = none) : Draw K (upd H t o) p q ns := by
  have n := d.ne ht
  obtain ⟨hq, _⟩ := d
  obtain ⟨_, a, v, x, hp, h0, h1⟩ := h
  exact ⟨fun H2 b2 => hq H2 ((b.new ht).trans b2), a, v, x, by rw [upd_ne n.symm]; exact hp, h0, h1⟩
theorem Draw.start {K : PySem.W.Frag} {H : Hp} {p q : Addr} {ns : List Int} (hS : SqL K H q (ns.map V.int)) (hp : H p = none) : Draw K (upd H p (.lst [.ref q, .int 0, .int 0, .int 1])) p q ns := by
  refine ⟨fun H' b => ?_, 0, 0, 1, upd_same, by decide, by decide⟩
  have s : ∀ o, H q = some o → H' q = some o := fun o e => by
    have n : q ≠ p := fun z => by rw [z, hp] at e; cases e
    exact b _ _ n (by rw [upd_ne n]; exact e)
  rcases hS with (h | ⟨o, h⟩) | h
  · exact .inl (.inl (s _ h))
  · exact .inl (.inr ⟨o, s _ h⟩)
  · exact .inr h
end Dw
namespace Dw
open PySem PySem.Spec PyProof.Rows L2 SX
/-! deep equality of data -/
theorem eqD_of {K : PySem.W.Frag} {H : Hp} {x y : V} {d : PyData} {Q : VK} (h1 : Dp K H x d) (h2 : Dp K H y d) (s : SeqAt.shaped d = true) (q : Q (.bl true) H) : rEqD K x y H Q := ⟨d, d, h1, h2, s, s, by rw [shaped_refl s]; exact q⟩
theorem neD_of {K : PySem.W.Frag} {H : Hp} {x y : V} {d : PyData} {Q : VK} (h1 : Dp K H x d) (h2 : Dp K H y d) (s : SeqAt.shaped d = true) (q : Q (.bl false) H) : rNeD K x y H Q := ⟨d, d, h1, h2, s, s, by rw [shaped_refl s]; exact q⟩
def natD (n : Nat) : PyData := .int (n : Int)
theorem nats_lay : ∀ ns : List Nat, PyData.canLayAll0 (ns.map natD) = true
  | [] => by simp [PyData.canLayAll0]
  | n :: r => by simp [PyData.canLayAll0, natD, PyData.canLay0, nats_lay r]
theorem nats_depth : ∀ ns : List Nat, PyData.depthAll (ns.map natD) = 0
  | [] => by simp [PyData.depthAll]
  | n :: r => by simp [PyData.depthAll, natD, PyData.depth, nats_depth r]
theorem nats_dp {K : PySem.W.Frag} {H : Hp} : ∀ ns : List Nat, DpAll K H (ns.map nv) (ns.map natD)
  | [] => .nil
  | _ :: r => .cons (.int _) (nats_dp r)
theorem nats_shaped (ns : List Nat) : SeqAt.shaped (.list (ns.map natD)) = true := by
  simp [SeqAt.shaped, PyData.canLay0, PyData.depth, nats_lay ns, nats_depth]
theorem nats_shapedT (ns : List Nat) : SeqAt.shaped (.tuple (ns.map natD)) = true := by
  simp [SeqAt.shaped, PyData.canLay0, PyData.depth, nats_lay ns, nats_depth]
theorem cutV_to {xs : List V} {t : Nat} (h : t ≤ xs.length) : cutV xs none (some (t : Int)) = xs.take t := by
  unfold cutV
  rw [HT.sIx_nat]
  show (xs.drop 0).take (min t xs.length - 0) = _
  rw [List.drop_zero, Nat.sub_zero, Nat.min_eq_left h]
theorem cutV_from {xs : List V} {t : Nat} (h : t ≤ xs.length) : cutV xs (some (t : Int)) none = xs.drop t := by
  unfold cutV
  rw [HT.sIx_nat]
  show (xs.drop (min t xs.length)).take (xs.length - min t xs.length) = _
  rw [Nat.min_eq_left h, List.take_of_length_le (by rw [List.length_drop]; omega)]
end Dw
namespace Dw
open PySem PySem.Spec PyProof.Rows L2 SX
theorem hu1' {A : Around} {k : Nat} (hr : Room k A) : A.units + 1 < cLine := by
  have := hr.units
  omega
/-! fields, read and stored -/
def FldR (K : PySem.W.Frag) (f : Str) : V → Hp → VK → Prop := fun x H Q => ∃ a C dx fs v, x = .ref a ∧ H a = some (.ins C dx fs) ∧ Cls K C ∧ NoAttr K C f ∧ fs.lookup f = some v ∧ Q v H
def tFd (K : PySem.W.Frag) (ta : TE) (f : Str) : TE := fun σ H Q => ta σ H fun x H1 => FldR K f x H1 Q
theorem fld_of {K : PySem.W.Frag} {f : Str} {a C dx : Addr} {fs : List (Str × V)} {v : V} {H : Hp} {Q : VK} (c : Cls K C) (n : NoAttr K C f) (h : H a = some (.ins C dx fs)) (l : fs.lookup f = some v) (q : Q v H) : FldR K f (.ref a) H Q := ⟨a, C, dx, fs, v, rfl, h, c, n, l, q⟩
def FldS (K : PySem.W.Frag) (f : Str) (x y : V) (H : Hp) (R : Hp → Prop) : Prop := ∃ a C dx fs, x = .ref a ∧ H a = some (.ins C dx fs) ∧ Cls K C ∧ NoAttr K C f ∧ fs.length < 1000 ∧ R (upd H a (.ins C dx (putF f y fs)))
def tFs (K : PySem.W.Frag) (ta tv : TE) (f : Str) : TS := fun D σ H => tv σ H fun y H1 => ta σ H1 fun x H2 => FldS K f x y H2 (D.nx σ)
theorem flds_of {K : PySem.W.Frag} {f : Str} {a C dx : Addr} {fs : List (Str × V)} {y : V} {H : Hp} {R : Hp → Prop} (c : Cls K C) (n : NoAttr K C f) (h : H a = some (.ins C dx fs)) (l : fs.length < 1000) (q : R (upd H a (.ins C dx (putF f y fs)))) : FldS K f (.ref a) y H R := ⟨a, C, dx, fs, rfl, h, c, n, l, q⟩
section
variable {X : Cx} (K : PySem.W.Frag)
theorem pe_fd {e : Expr} {ta : TE} {f : Str} {pos : Pos} (he : PE X e ta) (hb : attributeBase e f X.env (eval e X.env) = eval e X.env) (h : X.K = K := by rfl) : PE X (.Attribute e f pos) (tFd K ta f) := h ▸ pe_fld he hb
theorem ps_fldK {o value : Expr} {ta tv : TE} {f : Str} {pos pos' : Pos} (ha : PE X o ta) (hv : PE X value tv) (hs : swapsWith value (some (.Attribute o f pos')) pos.line X.env = pure false) (h : X.K = K := by rfl) : PS X (.Assign [.Attribute o f pos'] value pos) (tFs K ta tv f) := h ▸ ps_fld ha hv hs
theorem allQ (hc : X.calm = true := by rfl) (h : X.K = K := by rfl) : CallR X (.builtin "all") (rAll K) := h ▸ cr_all hc
end
/-! tables -/
structure RowsAt (H : Hp) (rs : List Addr) (T : List (List Int)) : Prop where
  len : rs.length = T.length
  at_ : ∀ (i : Nat) (a : Addr) (r : List Int), rs[i]? = some a → T[i]? = some r → H a = some (.lst (r.map V.int))
theorem RowsAt.same {H H' : Hp} {rs : List Addr} {T : List (List Int)} (h : RowsAt H rs T) (s : Same H H') : RowsAt H' rs T := ⟨h.len, fun i a r h1 h2 => s _ _ (h.at_ i a r h1 h2)⟩
theorem RowsAt.get {H : Hp} {rs : List Addr} {T : List (List Int)} {i : Nat} {r : List Int} (h : RowsAt H rs T) (e : T[i]? = some r) : ∃ a, rs[i]? = some a ∧ H a = some (.lst (r.map V.int)) := by
  have hi : i < rs.length := by
    rw [h.len]
    exact (List.getElem?_eq_some_iff.mp e).1
  exact ⟨rs[i], List.getElem?_eq_getElem hi, h.at_ i _ r (List.getElem?_eq_getElem hi) e⟩
def goodRow (n l : Nat) (r : List Int) : Bool := decide (r.length = l) && r.all fun x => decide (0 ≤ x) && decide (x < (n : Int))
def goodT (T : List (List Int)) (l : Nat) : Bool := T.all (goodRow T.length l)
/-- where state s is led to by a letter -/
def nxt (T : List (List Int)) (s l : Nat) : Nat := ((T.getD s []).getD l 0).toNat
def runT (T : List (List Int)) (s : Nat) (ls : List Nat) : Nat := ls.foldl (nxt T) s
theorem goodT_row {T : List (List Int)} {l s : Nat} (g : goodT T l = true) (h : s < T.length) : ∃ r, T[s]? = some r ∧ r.length = l ∧ ∀ x ∈ r, 0 ≤ x ∧ x < (T.length : Int) := by
  have h1 := List.all_eq_true.mp g T[s] (List.getElem_mem h)
  unfold goodRow at h1
  rw [Bool.and_eq_true, decide_eq_true_eq, List.all_eq_true] at h1
  refine ⟨T[s], List.getElem?_eq_getElem h, h1.1, fun x hx => ?_⟩
  have h2 := h1.2 x hx
  rw [Bool.and_eq_true, decide_eq_true_eq, decide_eq_true_eq] at h2
  exact h2
theorem goodT_at {T : List (List Int)} {l s a : Nat} (g : goodT T l = true) (h : s < T.length) (ha : a < l) : ∃ r, T[s]? = some r ∧ r[a]? = some ((nxt T s a : Nat) : Int) ∧ nxt T s a < T.length := by
  obtain ⟨r, e, hl, hx⟩ := goodT_row g h
  have ha' : a < r.length := by omega
  have e2 : r[a]? = some r[a] := List.getElem?_eq_getElem ha'
  have h3 := hx r[a] (List.getElem_mem ha')
  have e3 : nxt T s a = r[a].toNat := by
    unfold nxt
    have e4 : T.getD s [] = r := by rw [List.getD_eq_getElem?_getD, e, Option.getD_some]
    rw [e4, List.getD_eq_getElem?_getD, e2, Option.getD_some]
  refine ⟨r, e, ?_, by omega⟩
  rw [e2, e3, Int.toNat_of_nonneg h3.1]
theorem runT_lt {T : List (List Int)} {l : Nat} (g : goodT T l = true) : ∀ (ls : List Nat) (s : Nat), (∀ x ∈ ls, x < l) → s < T.length → runT T s ls < T.length
  | [], _, _, h => h
  | x :: r, s, hl, h => by
    obtain ⟨_, _, _, h2⟩ := goodT_at g h (hl x List.mem_cons_self)
    exact runT_lt g r _ (fun y hy => hl y (List.mem_cons_of_mem _ hy)) h2
theorem runT_snoc (T : List (List Int)) (s : Nat) (ls : List Nat) (x : Nat) : runT T s (ls ++ [x]) = nxt T (runT T s ls) x := by
  unfold runT
  rw [List.foldl_append]
  rfl
/-! machines -/
def mflds (w : Nat) (t b : Addr) : List (Str × V) := putF "accepting" (.ref b) (putF "table" (.ref t) (putF "width" (nv w) []))
theorem kwt : ¬ (("width" : Str) = "table") := by decide +kernel
theorem kwa : ¬ (("width" : Str) = "accepting") := by decide +kernel
theorem kta : ¬ (("table" : Str) = "accepting") := by decide +kernel
theorem mf_w (w : Nat) (t b : Addr) : (mflds w t b).lookup ("width" : Str) = some (nv w) := by
  unfold mflds
  rw [lookup_putF, if_neg kwa, lookup_putF, if_neg kwt, lookup_putF, if_pos rfl]
theorem mf_t (w : Nat) (t b : Addr) : (mflds w t b).lookup ("table" : Str) = some (.ref t) := by
  unfold mflds
  rw [lookup_putF, if_neg kta, lookup_putF, if_pos rfl]
theorem mf_a (w : Nat) (t b : Addr) : (mflds w t b).lookup ("accepting" : Str) = some (.ref b) := by
  unfold mflds
  rw [lookup_putF, if_pos rfl]
theorem mf_no (w : Nat) (t b : Addr) {m : Str} (h1 : ¬ m = "width") (h2 : ¬ m = "table") (h3 : ¬ m = "accepting") : (mflds w t b).lookup m = none := by
  unfold mflds
  rw [lookup_putF, if_neg h3, lookup_putF, if_neg h2, lookup_putF, if_neg h1]
  rfl
structure MachAt (C : Addr) (H : Hp) (m : Addr) (w : Nat) (T : List (List Int)) (acc : List Bool) : Prop where
  ex : ∃ dx t b rs, H m = some (.ins C dx (mflds w t b)) ∧ H t = some (.lst (rs.map V.ref)) ∧ RowsAt H rs T ∧ H b = some (.lst (acc.map V.bl))
theorem MachAt.same {C : Addr} {H H' : Hp} {m : Addr} {w : Nat} {T : List (List Int)} {acc : List Bool} (h : MachAt C H m w T acc) (s : Same H H') : MachAt C H' m w T acc := by
  obtain ⟨dx, t, b, rs, h1, h2, h3, h4⟩ := h.ex
  exact ⟨dx, t, b, rs, s _ _ h1, s _ _ h2, h3.same s, s _ _ h4⟩
/-- what a machine must be -/
structure MOk (w : Nat) (T : List (List Int)) (acc : List Bool) : Prop where
  w6 : w ≤ 6
  pos : 0 < T.length
  le : T.length ≤ 400
  good : goodT T (2 ^ w) = true
  al : acc.length = T.length
  set : ∀ i, i < T.length → acc[i]? = acc[nxt T i 0]?
theorem Same.but {H H' : Hp} {p : Addr} {o : HO} (h : H p = none) (s : Same H H') : But p H (upd H' p o) := (But.of s).trans But.upd
/-- all but what is new -/
theorem same_of_but {H H' : Hp} {p : Addr} (h : H p = none) (b : But p H H') : Same H H' := fun a o e => b a o (ne_of_none e h) e
def boolD (b : Bool) : PyData := .bool b
theorem bools_lay : ∀ ns : List Bool, PyData.canLayAll0 (ns.map boolD) = true
  | [] => by simp [PyData.canLayAll0]
  | n :: r => by simp [PyData.canLayAll0, boolD, PyData.canLay0, bools_lay r]
theorem bools_depth : ∀ ns : List Bool, PyData.depthAll (ns.map boolD) = 0
  | [] => by simp [PyData.depthAll]
  | n :: r => by simp [PyData.depthAll, boolD, PyData.depth, bools_depth r]
theorem bools_dp {K : PySem.W.Frag} {H : Hp} : ∀ ns : List Bool, DpAll K H (ns.map V.bl) (ns.map boolD)
  | [] => .nil
  | _ :: r => .cons (.bl _) (bools_dp r)
theorem bools_shaped (ns : List Bool) : SeqAt.shaped (.list (ns.map boolD)) = true := by
  simp [SeqAt.shaped, PyData.canLay0, PyData.depth, bools_lay ns, bools_depth]
def intD (n : Int) : PyData := .int n
theorem ints_lay : ∀ ns : List Int, PyData.canLayAll0 (ns.map intD) = true
  | [] => by simp [PyData.canLayAll0]
  | n :: r => by simp [PyData.canLayAll0, intD, PyData.canLay0, ints_lay r]
theorem ints_depth : ∀ ns : List Int, PyData.depthAll (ns.map intD) = 0
  | [] => by simp [PyData.depthAll]
  | n :: r => by simp [PyData.depthAll, intD, PyData.depth, ints_depth r]
theorem ints_dp {K : PySem.W.Frag} {H : Hp} : ∀ ns : List Int, DpAll K H (ns.map V.int) (ns.map intD)
  | [] => .nil
  | _ :: r => .cons (.int _) (ints_dp r)
theorem ints_shaped (ns : List Int) : SeqAt.shaped (.list (ns.map intD)) = true := by
  simp [SeqAt.shaped, PyData.canLay0, PyData.depth, ints_lay ns, ints_depth]
def rowD (r : List Int) : PyData := .list (r.map intD)
theorem rows_lay : ∀ T : List (List Int), PyData.canLayAll0 (T.map rowD) = true
  | [] => by simp [PyData.canLayAll0]
  | n :: r => by simp [PyData.canLayAll0, rowD, PyData.canLay0, ints_lay n, rows_lay r]
theorem rows_depth : ∀ T : List (List Int), PyData.depthAll (T.map rowD) ≤ 1
  | [] => by simp [PyData.depthAll]
  | n :: r => by
    have := rows_depth r
    simp [PyData.depthAll, rowD, PyData.depth, ints_depth n]
    omega
theorem rows_shaped (T : List (List Int)) : SeqAt.shaped (.list (T.map rowD)) = true := by
  have := rows_depth T
  simp [SeqAt.shaped, PyData.canLay0, PyData.depth, rows_lay T]
  omega
theorem rows_dp {K : PySem.W.Frag} {H : Hp} : ∀ {rs : List Addr} {T : List (List Int)}, RowsAt H rs T → DpAll K H (rs.map V.ref) (T.map rowD)
  | [], [], _ => .nil
  | a :: rs, r :: T, h => .cons (.lst (SqL.of (h.at_ 0 a r rfl rfl)) (ints_dp r)) (rows_dp (rs := rs) (T := T) ⟨Nat.succ.inj h.len, fun i a' r' h1 h2 => h.at_ (i + 1) a' r' h1 h2⟩)
  | [], _ :: _, h => nomatch h.len
  | _ :: _, [], h => nomatch h.len
end Dw
namespace Dw
open PySem PySem.Spec PyProof.Rows L2 SX
/-- a machine at m whose parts are new -/
structure MachNew (C : Addr) (H H' : Hp) (m : Addr) (w : Nat) (T : List (List Int)) (acc : List Bool) : Prop where
  ex : ∃ dx t b rs, H' m = some (.ins C dx (mflds w t b)) ∧ H' t = some (.lst (rs.map V.ref)) ∧ RowsAt H' rs T ∧ H' b = some (.lst (acc.map V.bl)) ∧ H t = none ∧ H b = none ∧ ∀ r ∈ rs, H r = none
theorem MachNew.at_ {C : Addr} {H H' : Hp} {m : Addr} {w : Nat} {T : List (List Int)} {acc : List Bool} (h : MachNew C H H' m w T acc) : MachAt C H' m w T acc := by
  obtain ⟨dx, t, b, rs, h1, h2, h3, h4, _⟩ := h.ex
  exact ⟨dx, t, b, rs, h1, h2, h3, h4⟩
end Dw
namespace Dw
open PySem PySem.Spec PyProof.Rows L2 SX
theorem for_enumN {K : PySem.W.Frag} {a : Addr} {xs : List V} {g : TG} {tb : TS} {D : Ends} {σ : L2.St} {H : Hp} (Pv : Nat → L2.St → Hp → Prop) (h0 : Pv 0 σ H) (hl : ∀ i σ H, i ≤ xs.length → Pv i σ H → SqL K H a xs)
    (hs : ∀ i x T σ H (N : L2.St → Hp → Prop), xs[i]? = some x → Pv i σ H → H T = none → (∀ σ' H', Pv (i + 1) σ' H' → N σ' H') → g (.ref T) σ (upd H T (.tup [.int (i : Nat), x])) fun σ2 H2 => tb { D with nx := N, ct := N, bk := D.nx } σ2 H2) (hd : ∀ σ H, Pv xs.length σ H → D.nx σ H) :
    ForJ (Ite K a) g tb D σ H := for_it (walk_enum (xs := xs)) Pv h0 hl (fun i x σ H H' hi p y => by
      obtain ⟨T, v, z, rfl, hT, rfl, e1, e2⟩ := y
      cases e1
      exact hs i z T σ H (Pv (i + 1)) e2 p hT fun _ _ h => h) hd
theorem RowsAt.snoc {H : Hp} {rs : List Addr} {T : List (List Int)} {a : Addr} {r : List Int} (h : RowsAt H rs T) (e : H a = some (.lst (r.map V.int))) : RowsAt H (rs ++ [a]) (T ++ [r]) := by
  refine ⟨by rw [List.length_append, List.length_append, h.len]; rfl, fun i b q h1 h2 => ?_⟩
  by_cases hi : i < rs.length
  · rw [List.getElem?_append_left hi] at h1
    rw [List.getElem?_append_left (by rw [← h.len]; exact hi)] at h2
    exact h.at_ i b q h1 h2
  · rw [List.getElem?_append_right (by omega)] at h1
    rw [List.getElem?_append_right (by rw [← h.len]; omega), ← h.len] at h2
    cases hk : i - rs.length with
    | zero =>
      rw [hk] at h1 h2
      cases h1
      cases h2
      exact e
    | succ k =>
      rw [hk] at h1
      cases h1
theorem RowsAt.but {H H' : Hp} {rs : List Addr} {T : List (List Int)} {p : Addr} (h : RowsAt H rs T) (b : But p H H') (n : ∀ r ∈ rs, r ≠ p) : RowsAt H' rs T :=
  ⟨h.len, fun i a r h1 h2 => b _ _ (n a (List.mem_of_getElem? h1)) (h.at_ i a r h1 h2)⟩
end Dw
namespace Dw
open PySem PySem.Spec PyProof.Rows L2 SX
/-- a machine at m, its parts at L -/
def MachP (C : Addr) (H : Hp) (L : List Addr) (m : Addr) (w : Nat) (T : List (List Int)) (acc : List Bool) : Prop := ∃ dx t b rs, L = m :: t :: b :: rs ∧ H m = some (.ins C dx (mflds w t b)) ∧ H t = some (.lst (rs.map V.ref)) ∧ RowsAt H rs T ∧ H b = some (.lst (acc.map V.bl))
section
variable {C : Addr} {H H' : Hp} {L : List Addr} {m q : Addr} {w : Nat} {T : List (List Int)} {acc : List Bool}
theorem MachP.at_ (h : MachP C H L m w T acc) : MachAt C H m w T acc := by
  obtain ⟨dx, t, b, rs, _, h1, h2, h3, h4⟩ := h
  exact ⟨dx, t, b, rs, h1, h2, h3, h4⟩
theorem MachP.but (h : MachP C H L m w T acc) (b : But q H H') (n : q ∉ L) : MachP C H' L m w T acc := by
  obtain ⟨dx, t, a, rs, rfl, h1, h2, h3, h4⟩ := h
  simp only [List.mem_cons, not_or] at n
  exact ⟨dx, t, a, rs, rfl, b _ _ (fun e => n.1 e.symm) h1, b _ _ (fun e => n.2.1 e.symm) h2, h3.but b fun r hr e => n.2.2.2 (e ▸ hr), b _ _ (fun e => n.2.2.1 e.symm) h4⟩
theorem MachP.same (h : MachP C H L m w T acc) (s : Same H H') : MachP C H' L m w T acc := by
  obtain ⟨dx, t, a, rs, rfl, h1, h2, h3, h4⟩ := h
  exact ⟨dx, t, a, rs, rfl, s _ _ h1, s _ _ h2, h3.same s, s _ _ h4⟩
theorem RowsAt.some {H : Hp} {rs : List Addr} {T : List (List Int)} {a : Addr} (h : RowsAt H rs T) (ha : a ∈ rs) : ∃ r, r ∈ T ∧ H a = some (.lst (r.map V.int)) := by
  obtain ⟨i, hi, e⟩ := List.mem_iff_getElem.mp ha
  have hi2 : i < T.length := by rw [← h.len]; exact hi
  exact ⟨T[i], List.getElem_mem hi2, h.at_ i a T[i] (by rw [List.getElem?_eq_getElem hi, e]) (List.getElem?_eq_getElem hi2)⟩
theorem MachP.free (h : MachP C H L m w T acc) (hq : H q = none) : q ∉ L := by
  obtain ⟨dx, t, a, rs, rfl, h1, h2, h3, h4⟩ := h
  intro z
  simp only [List.mem_cons] at z
  rcases z with rfl | rfl | rfl | z
  · rw [hq] at h1; cases h1
  · rw [hq] at h2; cases h2
  · rw [hq] at h4; cases h4
  · obtain ⟨r, _, e⟩ := h3.some z
    rw [hq] at e; cases e
theorem MachNew.parts (h : MachNew C H H' m w T acc) : ∃ L, MachP C H' L m w T acc ∧ ∀ a ∈ L, a = m ∨ H a = none := by
  obtain ⟨dx, t, b, rs, h1, h2, h3, h4, n1, n2, n3⟩ := h.ex
  refine ⟨_, ⟨dx, t, b, rs, rfl, h1, h2, h3, h4⟩, fun a ha => ?_⟩
  simp only [List.mem_cons] at ha
  rcases ha with rfl | rfl | rfl | z
  · exact .inl rfl
  · exact .inr n1
  · exact .inr n2
  · exact .inr (n3 a z)
theorem notin_of {o : HO} (h : ∀ a ∈ L, H a = none) (hq : H q = some o) : q ∉ L := fun z => by
  rw [h q z] at hq
  cases hq
end
end Dw
namespace Dw
open PySem PySem.Spec PyProof.Rows L2 SX
/-! a ring that is walked twice -/
def it (f : Nat → Nat) : Nat → Nat → Nat
  | 0, s => s
  | k + 1, s => it f k (f s)
theorem it_add (f : Nat → Nat) : ∀ (a b s : Nat), it f (a + b) s = it f b (it f a s)
  | 0, b, s => by rw [Nat.zero_add]; rfl
  | a + 1, b, s => by
    rw [Nat.add_right_comm]
    exact it_add f a b (f s)
theorem it_succ (f : Nat → Nat) (k s : Nat) : it f (k + 1) s = f (it f k s) := it_add f k 1 s
theorem it_lt {f : Nat → Nat} {n : Nat} (hf : ∀ x, x < n → f x < n) : ∀ (k s : Nat), s < n → it f k s < n
  | 0, _, h => h
  | k + 1, s, h => it_lt hf k (f s) (hf s h)
theorem pigeon : ∀ (n : Nat) (f : Nat → Nat), (∀ i, i ≤ n → f i < n) → ∃ i j, i < j ∧ j ≤ n ∧ f i = f j
  | 0, f, h => absurd (h 0 (Nat.le_refl 0)) (Nat.not_lt_zero _)
  | n + 1, f, h => by
    by_cases hv : ∃ i, i ≤ n ∧ f i = f (n + 1)
    · obtain ⟨i, hi, e⟩ := hv
      exact ⟨i, n + 1, by omega, Nat.le_refl _, e⟩
    · have hne : ∀ i, i ≤ n → f i ≠ f (n + 1) := fun i hi e => hv ⟨i, hi, e⟩
      have hl := h (n + 1) (Nat.le_refl _)
      obtain ⟨i, j, hij, hj, e⟩ := pigeon n (fun i => if f i = n then f (n + 1) else f i) (fun i hi => by
        have h1 := h i (by omega)
        have h2 := hne i hi
        show (if f i = n then f (n + 1) else f i) < n
        split
        · rename_i q
          omega
        · omega)
      refine ⟨i, j, hij, by omega, ?_⟩
      have h1 := hne i (by omega)
      have h2 := hne j hj
      split at e <;> split at e <;> omega
def ringL (f : Nat → Nat) (n s : Nat) : List Nat := (List.range (n + 1)).map fun j => it f (n + j) s
theorem ringL_mem {f : Nat → Nat} {n s x : Nat} : x ∈ ringL f n s ↔ ∃ j, j ≤ n ∧ it f (n + j) s = x := by
  unfold ringL
  rw [List.mem_map]
  constructor
  · rintro ⟨j, hj, e⟩
    exact ⟨j, by have := List.mem_range.mp hj; omega, e⟩
  · rintro ⟨j, hj, e⟩
    exact ⟨j, List.mem_range.mpr (by omega), e⟩
theorem ring_same {f : Nat → Nat} {n s x : Nat} (hf : ∀ x, x < n → f x < n) (hs : s < n) : x ∈ ringL f n s ↔ x ∈ ringL f n (f s) := by
  obtain ⟨a, b, hab, hb, e⟩ := pigeon n (fun i => it f i s) fun i _ => it_lt hf i s hs
  have per : ∀ k, a ≤ k → it f (k + (b - a)) s = it f k s := fun k hk => by
    have e1 : k + (b - a) = b + (k - a) := by omega
    have e2 : k = a + (k - a) := by omega
    rw [e1, it_add, ← (show it f a s = it f b s from e), ← it_add, ← e2]
  have nx : ∀ j, it f (n + j) (f s) = it f (n + 1 + j) s := fun j => by
    have : n + 1 + j = (n + j) + 1 := by omega
    rw [this]
    rfl
  rw [ringL_mem, ringL_mem]
  constructor
  · rintro ⟨j, hj, rfl⟩
    by_cases h0 : j = 0
    · subst h0
      refine ⟨b - a - 1, by omega, ?_⟩
      have e2 : n + 1 + (b - a - 1) = n + (b - a) := by omega
      rw [nx, e2, per n (by omega)]
      rfl
    · refine ⟨j - 1, by omega, ?_⟩
      rw [nx]
      congr 1
      omega
  · rintro ⟨j, hj, rfl⟩
    rw [nx]
    by_cases h0 : j = n
    · subst h0
      refine ⟨j + 1 - (b - a), by omega, ?_⟩
      rw [← per (j + (j + 1 - (b - a))) (by omega)]
      congr 1
      omega
    · exact ⟨j + 1, by omega, by congr 1; omega⟩
def IsMin (m : Nat) (L : List Nat) : Prop := m ∈ L ∧ ∀ y ∈ L, m ≤ y
theorem IsMin.eq {m k : Nat} {L M : List Nat} (h : IsMin m L) (h' : IsMin k M) (e : ∀ x, x ∈ L ↔ x ∈ M) : m = k :=
  Nat.le_antisymm (h.2 _ ((e _).mpr h'.1)) (h'.2 _ ((e _).mp h.1))
/-! told words -/
structure TOk (T : List (List Int)) (outs : List Int) : Prop where
  pos : 0 < T.length
  le : T.length ≤ 40
  al : outs.length = T.length
  rng : ∀ o ∈ outs, 0 ≤ o ∧ o ≤ 9
  good : goodT T 2 = true
  set : ∀ i, i < T.length → outs[i]? = outs[nxt T i 0]?
theorem TOk.nx {T : List (List Int)} {outs : List Int} (h : TOk T outs) {s d : Nat} (hs : s < T.length) (hd : d < 2) : nxt T s d < T.length := by
  obtain ⟨_, _, _, h2⟩ := goodT_at h.good hs hd
  exact h2
theorem TOk.zeros {T : List (List Int)} {outs : List Int} (h : TOk T outs) : ∀ (z s : Nat), s < T.length → outs[runT T s (List.replicate z 0)]? = outs[s]?
  | 0, _, _ => rfl
  | z + 1, s, hs => by
    show outs[runT T (nxt T s 0) (List.replicate z 0)]? = _
    rw [h.zeros z _ (h.nx hs (by decide)), ← h.set s hs]
/-- the digits of a number -/
def dg (n : Nat) : List Nat := bitsL n (blen n)
theorem dg_zero : dg 0 = [] := rfl
theorem blen_half {n : Nat} (h : n ≠ 0) : blen n = blen (n / 2) + 1 := by
  have h1 := lt_blen (n / 2)
  have h2 : n < 2 ^ (blen (n / 2) + 1) := by
    rw [Nat.pow_succ]
    omega
  have h3 := blen_le h2
  obtain ⟨k, e⟩ : ∃ k, blen n = k + 1 := ⟨n.log2, blen_pos h⟩
  have h4 := lt_blen n
  rw [e, Nat.pow_succ] at h4
  have h5 : blen (n / 2) ≤ k := blen_le (by omega)
  omega
theorem dg_pos {n : Nat} (h : n ≠ 0) : dg n = n % 2 :: dg (n / 2) := by
  unfold dg
  rw [blen_half h, bitsL_succ]
theorem dg_bits (n : Nat) : Bits (dg n) := bitsL_bits _ _
theorem bits_pad : ∀ (n k : Nat), bitsL n (blen n + k) = dg n ++ List.replicate k 0 := fun n k => by
  unfold dg
  refine List.ext_getElem (by simp [bitsL_len]) fun i h1 h2 => ?_
  by_cases hi : i < blen n
  · rw [List.getElem_append_left (by rw [bitsL_len]; exact hi)]
    simp only [bitsL, List.getElem_map, List.getElem_range]
  · rw [List.getElem_append_right (by rw [bitsL_len]; omega)]
    simp only [bitsL, List.getElem_map, List.getElem_range, List.getElem_replicate]
    have : n < 2 ^ i := Nat.lt_of_lt_of_le (lt_blen n) (Nat.pow_le_pow_right (by decide) (by omega))
    rw [Nat.div_eq_of_lt this]
theorem runT_app (T : List (List Int)) (s : Nat) (a b : List Nat) : runT T s (a ++ b) = runT T (runT T s a) b := by
  unfold runT
  rw [List.foldl_append]
/-- a copied table -/
theorem lc_copy {K : PySem.W.Frag} {t : Addr} {rs : List Addr} {T : List (List Int)} {g : TG} {te : TE} {vs : List Nat} {σ : L2.St} {H1 : Hp} {D : Addr} {Qd : Hp → Prop} (h1 : H1 t = some (.lst (rs.map V.ref))) (hr : RowsAt H1 rs T) (hn : T.length ≤ 500) (hD : H1 D = none)
    (step : ∀ a (r : List Int) H (N : VK), H a = some (.lst (r.map V.int)) → (∀ L, H L = none → N (.ref L) (upd H L (.lst (r.map V.int)))) → g (.ref a) (wipe σ vs) H fun σ2 H2 => wipe σ2 vs = wipe σ vs ∧ te σ2 H2 N)
    (hd : ∀ H' qs, Same H1 H' → H' D = some (.lst (qs.map V.ref)) → RowsAt H' qs T → (∀ q ∈ qs, H1 q = none ∧ q ≠ D) → Qd H') : LcJ (Itl K t) g tYes te vs D σ H1 Qd := by
  refine lc_listN (xs := rs.map V.ref) (fun i H4 => ∃ qs : List Addr, H4 D = some (.lst (qs.map V.ref)) ∧ RowsAt H4 qs (T.take i) ∧ Same H1 H4 ∧ ∀ q ∈ qs, H1 q = none ∧ q ≠ D) ?_ ?_ ?_ ?_
  · exact ⟨[], upd_same, ⟨rfl, fun i a r h _ => nomatch h⟩, same_upd hD, fun _ h => nomatch h⟩
  · rintro i H4 _ ⟨qs, _, _, s4, _⟩
    exact SqL.of (s4 _ _ h1)
  · rintro i x H4 N2 hx ⟨qs, h4, q4, s4, n4⟩ hN2
    rw [List.getElem?_map] at hx
    obtain ⟨ra, hra, rfl⟩ := Option.map_eq_some_iff.mp hx
    have hi : i < T.length := by rw [← hr.len]; exact (List.getElem?_eq_some_iff.mp hra).1
    have hTi : T[i]? = some T[i] := List.getElem?_eq_getElem hi
    have hrow := s4 _ _ (hr.at_ i ra T[i] hra hTi)
    have hql : qs.length ≤ 500 := by
      have := q4.len
      rw [List.length_take] at this
      omega
    refine step ra T[i] H4 (fun y H5 => ∃ acc, H5 D = some (.lst acc) ∧ acc.length < sizeLine ∧ N2 (upd H5 D (.lst (acc ++ [y])))) hrow fun L hL => ⟨_, (same_upd hL) _ _ h4, smallt (by rw [List.length_map]; omega), hN2 _ ⟨qs ++ [L], ?_, ?_, ?_, ?_⟩⟩
    · rw [upd_same, List.map_append]
      rfl
    · have hLD : L ≠ D := (ne_of_none h4 hL).symm
      rw [List.take_add_one, hTi]
      refine RowsAt.but (RowsAt.snoc (q4.same (same_upd hL)) upd_same) But.upd fun q hq => ?_
      rcases List.mem_append.mp hq with hq | hq
      · exact (n4 q hq).2
      · rw [List.mem_singleton.mp hq]
        exact hLD
    · exact Dw.Same.new (s4.trans (same_upd hL)) hD
    · intro q hq
      rcases List.mem_append.mp hq with hq | hq
      · exact n4 q hq
      · rw [List.mem_singleton.mp hq]
        exact ⟨s4.free hL, (ne_of_none h4 hL).symm⟩
  · rintro H4 ⟨qs, h4, q4, s4, n4⟩
    rw [List.length_map, hr.len, List.take_length] at q4
    exact hd H4 qs s4 h4 q4 n4
section
variable {X : Cx} (K : PySem.W.Frag)
theorem minK (hc : X.calm = true := by rfl) (h : X.K = K := by rfl) : CallR X (.builtin "min") (rMin K) := h ▸ cr_min hc
end
end Dw
namespace Dw
open PySem PySem.Spec PyProof.Rows L2 SX
theorem Same.get {H H' : Hp} {a : Addr} {o : HO} (s : Same H H') (h : H a = some o) : H' a = some o := s _ _ h
theorem But.get {p : Addr} {H H' : Hp} {a : Addr} {o : HO} (b : But p H H') (n : a ≠ p) (h : H a = some o) : H' a = some o := b _ _ n h
theorem Same.none {H H' : Hp} {a : Addr} (s : Same H H') (h : H' a = none) : H a = none := s.free h
theorem But.none {p : Addr} {H H' : Hp} {a : Addr} (b : But p H H') (n : a ≠ p) (h : H' a = none) : H a = none := by
  cases e : H a with
  | none => rfl
  | some o =>
    have := b _ _ n e
    rw [h] at this
    cases this
def tflds (o t : Addr) : List (Str × V) := putF "table" (.ref t) (putF "outputs" (.ref o) [])
theorem kot : ¬ (("outputs" : Str) = "table") := by decide +kernel
theorem tf_o (o t : Addr) : (tflds o t).lookup ("outputs" : Str) = some (.ref o) := by
  unfold tflds
  rw [lookup_putF, if_neg kot, lookup_putF, if_pos rfl]
theorem tf_t (o t : Addr) : (tflds o t).lookup ("table" : Str) = some (.ref t) := by
  unfold tflds
  rw [lookup_putF, if_pos rfl]
theorem tf_no (o t : Addr) {m : Str} (h1 : ¬ m = "outputs") (h2 : ¬ m = "table") : (tflds o t).lookup m = none := by
  unfold tflds
  rw [lookup_putF, if_neg h2, lookup_putF, if_neg h1]
  rfl
/-- a told word at m, its parts at L -/
def ToldP (C : Addr) (H : Hp) (L : List Addr) (m : Addr) (T : List (List Int)) (outs : List Int) : Prop := ∃ dx o t rs, L = m :: o :: t :: rs ∧ H m = some (.ins C dx (tflds o t)) ∧ H o = some (.lst (outs.map V.int)) ∧ H t = some (.lst (rs.map V.ref)) ∧ RowsAt H rs T
section
variable {C : Addr} {H H' : Hp} {L : List Addr} {m q : Addr} {T : List (List Int)} {outs : List Int}
theorem ToldP.but (h : ToldP C H L m T outs) (b : But q H H') (n : q ∉ L) : ToldP C H' L m T outs := by
  obtain ⟨dx, o, t, rs, rfl, h1, h2, h3, h4⟩ := h
  simp only [List.mem_cons, not_or] at n
  exact ⟨dx, o, t, rs, rfl, b _ _ (fun e => n.1 e.symm) h1, b _ _ (fun e => n.2.1 e.symm) h2, b _ _ (fun e => n.2.2.1 e.symm) h3, h4.but b fun r hr e => n.2.2.2 (e ▸ hr)⟩
theorem ToldP.same (h : ToldP C H L m T outs) (s : Same H H') : ToldP C H' L m T outs := by
  obtain ⟨dx, o, t, rs, rfl, h1, h2, h3, h4⟩ := h
  exact ⟨dx, o, t, rs, rfl, s _ _ h1, s _ _ h2, s _ _ h3, h4.same s⟩
theorem ToldP.free (h : ToldP C H L m T outs) (hq : H q = none) : q ∉ L := by
  obtain ⟨dx, o, t, rs, rfl, h1, h2, h3, h4⟩ := h
  intro z
  simp only [List.mem_cons] at z
  rcases z with rfl | rfl | rfl | z
  · rw [hq] at h1; cases h1
  · rw [hq] at h2; cases h2
  · rw [hq] at h3; cases h3
  · obtain ⟨r, _, e⟩ := h4.some z
    rw [hq] at e; cases e
end
/-- a row of a table, changed nowhere else -/
theorem RowsAt.not {H : Hp} {rs : List Addr} {T : List (List Int)} {q : Addr} (h : RowsAt H rs T) (hq : ∀ r : List Int, H q ≠ Option.some (.lst (r.map V.int))) : q ∉ rs := fun z => by
  obtain ⟨r, _, e⟩ := h.some z
  exact hq r e
theorem RowsAt.free {H : Hp} {rs : List Addr} {T : List (List Int)} {q : Addr} (h : RowsAt H rs T) (hq : H q = none) : q ∉ rs := fun z => by
  obtain ⟨r, _, e⟩ := h.some z
  rw [hq] at e
  cases e
/-- the output that a word has at a number -/
def outOf (T : List (List Int)) (outs : List Int) (n : Nat) : Int := outs.getD (runT T 0 (dg n)) 0
theorem TOk.run {T : List (List Int)} {outs : List Int} (h : TOk T outs) {ds : List Nat} (b : Bits ds) : runT T 0 ds < T.length := runT_lt h.good ds 0 b h.pos
theorem TOk.at_ {T : List (List Int)} {outs : List Int} (h : TOk T outs) {s : Nat} (hs : s < T.length) : outs[s]? = some (outs.getD s 0) := by
  rw [List.getD_eq_getElem?_getD, List.getElem?_eq_getElem (by rw [h.al]; exact hs)]
  rfl
theorem TOk.pad {T : List (List Int)} {outs : List Int} (h : TOk T outs) (n k : Nat) : outs[runT T 0 (bitsL n (blen n + k))]? = some (outOf T outs n) := by
  rw [bits_pad, runT_app, h.zeros k _ (h.run (dg_bits n)), h.at_ (h.run (dg_bits n))]
  rfl
theorem bitsL_snoc (n k : Nat) : bitsL n (k + 1) = bitsL n k ++ [n / 2 ^ k % 2] := by
  unfold bitsL
  rw [List.range_succ, List.map_append]
  rfl
theorem wd_dg (n : Nat) : wd [n] = dg n := by
  unfold dg wd bitsL bitAt bls bls
  rw [Nat.max_eq_left (Nat.zero_le _)]
  refine List.map_congr_left fun k _ => ?_
  show n / 2 ^ k % 2 + 2 * 0 = _
  omega
theorem TOk.mach {T : List (List Int)} {outs : List Int} (h : TOk T outs) (o : Int) : MOk 1 T (outs.map fun x => decide (x = o)) := by
  refine ⟨by decide, h.pos, by have := h.le; omega, h.good, by rw [List.length_map, h.al], fun i hi => ?_⟩
  rw [List.getElem?_map, List.getElem?_map, h.set i hi]
theorem TOk.acc {T : List (List Int)} {outs : List Int} (h : TOk T outs) (o : Int) (n : Nat) : (outs.map fun x => decide (x = o)).getD (runT T 0 (wd [n])) false = decide (outOf T outs n = o) := by
  rw [wd_dg, List.getD_eq_getElem?_getD, List.getElem?_map, h.at_ (h.run (dg_bits n))]
  rfl
end Dw
namespace Dw
open PySem PySem.Spec PyProof.Rows L2 SX
theorem ixN_at {n j : Nat} (hj : j < n) : ixN n (j : Int) = some j := by
  unfold ixN
  rw [if_pos (by omega), if_pos (by omega)]
  simp
theorem setL_of {p : Addr} {xs : List V} {j : Nat} {v : V} {H : Hp} {R : Hp → Prop} (h : H p = some (.lst xs)) (hj : j < xs.length) (q : R (upd H p (.lst (xs.set j v)))) : L2.rSetL (.ref p) (.int (j : Nat)) v H R := ⟨p, xs, j, j, rfl, rfl, h, ixN_at hj, q⟩
end Dw
namespace Dw
/-! marks that are settled: labels brought down along f -/
def rel (f : Nat → Nat) (g : Nat → Nat) (k : Nat) : Nat → Nat := fun x => if x = f k then min (g k) (g (f k)) else if x = k then min (g k) (g (f k)) else g x
def rnd (f : Nat → Nat) (g : Nat → Nat) : Nat → Nat → Nat
  | 0 => g
  | j + 1 => rel f (rnd f g j) j
def trn (f : Nat → Nat) (n : Nat) (g : Nat → Nat) : Nat → Nat → Nat
  | 0 => g
  | t + 1 => rnd f (trn f n g t) n
def cntv (g : Nat → Nat) (v : Nat) : Nat → Nat
  | 0 => 0
  | m + 1 => cntv g v m + if g m ≤ v then 1 else 0
theorem cntv_le (g : Nat → Nat) (v : Nat) : ∀ m, cntv g v m ≤ m
  | 0 => Nat.le_refl 0
  | m + 1 => by
    have := cntv_le g v m
    unfold cntv
    split <;> omega
theorem cntv_mono {g g' : Nat → Nat} {v : Nat} (h : ∀ x, g' x ≤ g x) : ∀ m, cntv g v m ≤ cntv g' v m
  | 0 => Nat.le_refl 0
  | m + 1 => by
    have h1 := cntv_mono (v := v) h m
    have h2 := h m
    unfold cntv
    split <;> split <;> omega
theorem cntv_strict {g g' : Nat → Nat} {v y : Nat} (h : ∀ x, g' x ≤ g x) (h1 : ¬ g y ≤ v) (h2 : g' y ≤ v) : ∀ m, y < m → cntv g v m + 1 ≤ cntv g' v m
  | 0, hm => absurd hm (Nat.not_lt_zero _)
  | m + 1, hm => by
    by_cases e : y = m
    · subst e
      have := cntv_mono (v := v) h y
      unfold cntv
      rw [if_neg h1, if_pos h2]
      omega
    · have h3 := cntv_strict h h1 h2 m (by omega)
      have h4 := h m
      unfold cntv
      split <;> split <;> omega
theorem rel_le (f g : Nat → Nat) (k x : Nat) : rel f g k x ≤ g x := by
  unfold rel
  split
  · rename_i e; rw [e]; exact Nat.min_le_right _ _
  · split
    · rename_i e; rw [e]; exact Nat.min_le_left _ _
    · exact Nat.le_refl _
theorem rnd_le (f g : Nat → Nat) : ∀ (j x : Nat), rnd f g j x ≤ g x
  | 0, _ => Nat.le_refl _
  | j + 1, x => Nat.le_trans (rel_le _ _ _ _) (rnd_le f g j x)
theorem rnd_anti (f g : Nat → Nat) (x j : Nat) : ∀ d, rnd f g (j + d) x ≤ rnd f g j x
  | 0 => Nat.le_refl _
  | d + 1 => Nat.le_trans (rel_le _ _ _ _) (rnd_anti f g x j d)
theorem rnd_low (f g : Nat → Nat) {n k : Nat} (hk : k < n) : rnd f g n k ≤ min (g k) (g (f k)) ∧ rnd f g n (f k) ≤ min (g k) (g (f k)) := by
  have e : n = (k + 1) + (n - (k + 1)) := by omega
  have h1 := rnd_le f g k k
  have h2 := rnd_le f g k (f k)
  have hm : min (rnd f g k k) (rnd f g k (f k)) ≤ min (g k) (g (f k)) := by omega
  have a : rnd f g (k + 1) k ≤ min (rnd f g k k) (rnd f g k (f k)) := by
    show rel f (rnd f g k) k k ≤ _
    unfold rel
    split
    · exact Nat.le_refl _
    · rw [if_pos rfl]; exact Nat.le_refl _
  have b : rnd f g (k + 1) (f k) ≤ min (rnd f g k k) (rnd f g k (f k)) := by
    show rel f (rnd f g k) k (f k) ≤ _
    unfold rel
    rw [if_pos rfl]
    exact Nat.le_refl _
  have c := rnd_anti f g k (k + 1) (n - (k + 1))
  have d := rnd_anti f g (f k) (k + 1) (n - (k + 1))
  rw [← e] at c d
  omega
def closedV (f : Nat → Nat) (n v : Nat) (g : Nat → Nat) : Prop := ∀ k, k < n → (g k ≤ v ↔ g (f k) ≤ v)
theorem rel_closed {f g : Nat → Nat} {n v k : Nat} (hk : k < n) (h : closedV f n v g) (x : Nat) : rel f g k x ≤ v ↔ g x ≤ v := by
  have h1 := h k hk
  unfold rel
  split
  · rename_i e; rw [e]; omega
  · split
    · rename_i e; rw [e]; omega
    · exact Iff.rfl
theorem rnd_closed {f g : Nat → Nat} {n v : Nat} (h : closedV f n v g) : ∀ j, j ≤ n → ∀ x, rnd f g j x ≤ v ↔ g x ≤ v
  | 0, _, _ => Iff.rfl
  | j + 1, hj, x => by
    have ih := rnd_closed h j (by omega)
    have hc : closedV f n v (rnd f g j) := fun k hk => by rw [ih k, ih (f k)]; exact h k hk
    show rel f (rnd f g j) j x ≤ v ↔ _
    rw [rel_closed (n := n) (by omega) hc x, ih x]
theorem trn_prog {f : Nat → Nat} {n v : Nat} (hn : 0 < n) (hf : ∀ x, x < n → f x < n) : ∀ t, closedV f n v (trn f n id t) ∨ t + 1 ≤ cntv (trn f n id t) v n
  | 0 => by
    right
    show 1 ≤ cntv id v n
    have : ∀ m, 0 < m → 1 ≤ cntv id v m := by
      intro m
      induction m with
      | zero => intro h; cases h
      | succ m ih =>
        intro _
        unfold cntv
        by_cases h0 : m = 0
        · subst h0; rw [if_pos (show id 0 ≤ v from Nat.zero_le _)]; omega
        · have := ih (by omega); omega
    exact this n hn
  | t + 1 => by
    by_cases hc : closedV f n v (trn f n id t)
    · left
      intro k hk
      show rnd f (trn f n id t) n k ≤ v ↔ rnd f (trn f n id t) n (f k) ≤ v
      rw [rnd_closed hc n (Nat.le_refl _) k, rnd_closed hc n (Nat.le_refl _) (f k)]
      exact hc k hk
    · rcases trn_prog (v := v) hn hf t with h | h
      · exact absurd h hc
      · right
        have : ∃ k, k < n ∧ ¬ (trn f n id t k ≤ v ↔ trn f n id t (f k) ≤ v) := Classical.byContradiction fun z => hc fun k hk => Classical.byContradiction fun y => z ⟨k, hk, y⟩
        obtain ⟨k, hk, hx⟩ := this
        have hl := rnd_low f (trn f n id t) hk
        have hle := rnd_le f (trn f n id t) n
        show t + 1 + 1 ≤ cntv (rnd f (trn f n id t) n) v n
        by_cases h1 : trn f n id t k ≤ v
        · have h2 : ¬ trn f n id t (f k) ≤ v := fun z => hx ⟨fun _ => z, fun _ => h1⟩
          have := cntv_strict (g' := rnd f (trn f n id t) n) hle h2 (by omega) n (hf k hk)
          omega
        · have h2 : trn f n id t (f k) ≤ v := Classical.byContradiction fun z => hx ⟨fun y => absurd y h1, fun y => absurd y z⟩
          have := cntv_strict (g' := rnd f (trn f n id t) n) hle h1 (by omega) n hk
          omega
theorem trn_settled {f : Nat → Nat} {n : Nat} (hf : ∀ x, x < n → f x < n) {k : Nat} (hk : k < n) : trn f n id n k = trn f n id n (f k) := by
  have hc : ∀ v, closedV f n v (trn f n id n) := fun v => by
    rcases trn_prog (v := v) (by omega) hf n with h | h
    · exact h
    · have := cntv_le (trn f n id n) v n
      omega
  have h1 := (hc (trn f n id n k) k hk).mp (Nat.le_refl _)
  have h2 := (hc (trn f n id n (f k)) k hk).mpr (Nat.le_refl _)
  omega
theorem trn_le (f : Nat → Nat) (n : Nat) : ∀ (t x : Nat), trn f n id t x ≤ x
  | 0, _ => Nat.le_refl _
  | t + 1, x => Nat.le_trans (rnd_le _ _ _ _) (trn_le f n t x)
theorem map_set (n k v : Nat) (g : Nat → Nat) : ((List.range n).map g).set k v = (List.range n).map fun x => if x = k then v else g x := by
  refine List.ext_getElem (by simp) fun i h1 h2 => ?_
  rw [List.getElem_set]
  simp only [List.getElem_map, List.getElem_range]
  by_cases e : k = i
  · rw [if_pos e, if_pos e.symm]
  · rw [if_neg e, if_neg fun z => e z.symm]
end Dw
namespace Dw
open PySem PySem.Spec PyProof.Rows L2 SX
/-! classes whose __init__ may raise, methods that may raise -/
structure MakX (P : Program) (w : World) (K : PySem.W.Frag) (mg : Str → Option Value) (base : Heap) (k : Nat) (x : Str) (C : Addr) (sp : Sp) : Prop where
  ex : ∃ (f : Addr) (fd : FuncData) (ps : List Str), Mk K C f ∧ FnOk P w K mg base (L2.CX P w) k f fd ps sp ∧ mg x = some (.ref C) ∧ Binds K fd ps []
structure MetX (P : Program) (w : World) (K : PySem.W.Frag) (mg : Str → Option Value) (base : Heap) (k : Nat) (C : Addr) (m : Str) (sp : Sp) : Prop where
  ex : ∃ (f : Addr) (fd : FuncData) (ps : List Str), Cls K C ∧ Meth K C m f ∧ FnOk P w K mg base (L2.CX P w) k f fd ps sp ∧ Binds K fd ps []
section
variable {P : Program} {w : World} {K : PySem.W.Frag} {mg : Str → Option Value} {base : Heap}
theorem makX0 {x qual : Str} {C : Addr} {st : Stmt} {f : Addr} {fd : FuncData} {N ps : List Str} {k : Nat} {sp : Sp} (M : Mk K C f) (hm : mg x = some (.ref C)) (F : C8.Fun K "__init__" qual st f fd) (b : Binds K fd ps []) (S : FnScope N ps (C8.fnScope st)) (len : ∀ vs H Q E, sp vs H Q E → vs.length = ps.length)
    (hbody : ∀ (cdv : Value) (A : Around) (outer : List Env) (s : Shared) (H : Hp) (vs : List V) (Q : VK) (E : XK), Room k (A.deeper (envOfC qual (C8.fnScope st) s.heap.objs.size f cdv)) → sp vs H Q E →
      ∃ t, PSs (cxOf (L2.CX P w) P w K mg base N qual (C8.fnScope st) f cdv A outer s H E) (C8.fnBody st) t ∧ t { nx := fun _ H' => Q .non H', rt := Q } (start N vs) H) : MakX P w K mg base (k + 1) x C sp := by
  refine ⟨f, fd, ps, M, ?_, hm, b⟩
  obtain ⟨oc, od, dV, kV, doc, pm, an, cdv, ct, osl, rfl, lk, hcd⟩ := F.ex
  exact fn_of lk hcd S len fun A outer s H vs Q E hr hsp => hbody cdv A outer s H vs Q E hr hsp
theorem metX0 {m qual : Str} {C : Addr} {st : Stmt} {f : Addr} {fd : FuncData} {N ps : List Str} {k : Nat} {sp : Sp} (c : Cls K C) (me : Meth K C m f) (F : C8.Fun K m qual st f fd) (b : Binds K fd ps []) (S : FnScope N ps (C8.fnScope st)) (len : ∀ vs H Q E, sp vs H Q E → vs.length = ps.length)
    (hbody : ∀ (cdv : Value) (A : Around) (outer : List Env) (s : Shared) (H : Hp) (vs : List V) (Q : VK) (E : XK), Room k (A.deeper (envOfC qual (C8.fnScope st) s.heap.objs.size f cdv)) → sp vs H Q E →
      ∃ t, PSs (cxOf (L2.CX P w) P w K mg base N qual (C8.fnScope st) f cdv A outer s H E) (C8.fnBody st) t ∧ t { nx := fun _ H' => Q .non H', rt := Q } (start N vs) H) : MetX P w K mg base (k + 1) C m sp := by
  refine ⟨f, fd, ps, c, me, ?_, b⟩
  obtain ⟨oc, od, dV, kV, doc, pm, an, cdv, ct, osl, rfl, lk, hcd⟩ := F.ex
  exact fn_of lk hcd S len fun A outer s H vs Q E hr hsp => hbody cdv A outer s H vs Q E hr hsp
end
section
variable {X : Cx} {k j : Nat} {f C : Addr} {x m : Str} {sp : Sp} {p pos apos : Pos} {e o : Expr} {es : List Expr} {t : TA} {ta : TE} {CX : CXT} {fd : FuncData} {ps : List Str}
theorem pe_mkx {E : XK} (c : MakX X.prog X.w X.K X.mg X.base k x C sp) (hr : Room j X.A) (hk : k + 1 ≤ j) (hx : Passes (L2.CX X.prog X.w) X E) (hg : Gl X x) (ha : PA X (e :: es) t)
    (hdb : (x == ("__debug__" : Str)) = false := by decide) (he : starEach (e :: es) X.env = (false, eval e X.env) :: starEach es X.env := by rfl) (hpl : (backTo pos (starEach es X.env)).any (·.1) = false := by rfl) :
    PE X (.Call (.Name x p) (e :: es) [] pos) (tMake C sp [] E t) := by
  obtain ⟨f, fd, ps, M, F, hm, b⟩ := c.ex
  exact pe_make M F (hr.mono hk) hg hm b .nil hx ha hdb he hpl
theorem pe_mtx {pl : Sem Bool} {E : XK} (c : MetX X.prog X.w X.K X.mg X.base k C m sp) (hr : Room j X.A) (hk : k ≤ j) (hx : Passes (L2.CX X.prog X.w) X E) (he : PE X o ta) (ha : PA X (e :: es) t)
    (hst : starEach (e :: es) X.env = (false, eval e X.env) :: starEach es X.env := by rfl) (hpl : (backTo pos (starEach es X.env)).any (·.1) = false := by rfl)
    (ht : eval (.Call (.Attribute o m apos) (e :: es) [] pos) X.env = (do
      let ov ← eval o X.env
      standAt apos.atName
      let (f, first) ← holding [ov] (getMethod ov m pl)
      callWith pos f first (backTo pos (starEach (e :: es) X.env)) (backToKw pos (keywordEach [] X.env))) := by rfl) :
    PE X (.Call (.Attribute o m apos) (e :: es) [] pos) (tMeth C m sp [] E ta t) := by
  obtain ⟨f, fd, ps, hc, hm, F, b⟩ := c.ex
  exact pe_meth (pl := pl) he hc hm F (hr.mono hk) b .nil hx ha hst hpl ht
/-! in a try -/
def tMakeS (C : Addr) (sp : Sp) (E : L2.St → XK) (t : TA) : TE := fun σ H Q => t σ H fun vs H1 => ∀ x dx, H1 x = none → H1 dx = none → dx ≠ x →
  sp (.ref x :: vs) (upd (upd H1 dx (.own x)) x (.ins C dx [])) (fun v H2 => v = .non ∧ Q (.ref x) H2) (E σ)
theorem run_makeS {pins : List (Addr × Obj)} {σ : L2.St} {H : Hp} {s : Shared} {Q : VK} {E : L2.St → XK} {us : List Value} {vs : List V} (M : Mk X.K C f) (F : FnOk X.prog X.w X.K X.mg X.base CX k f fd ps sp) (hr : Room (k + 1) X.A) (hb : Binds X.K fd ps [])
    (hx : PassesAt CX X σ (E σ)) (I : Inv X pins σ H s) (r : Vals vs us)
    (h : ∀ x dx, H x = none → H dx = none → dx ≠ x → sp (.ref x :: vs) (upd (upd H dx (.own x)) x (.ins C dx [])) (fun v H2 => v = .non ∧ Q (.ref x) H2) (E σ)) :
    wpAny (model X.prog X.w) X.A (call (.ref C) us) (EP X pins σ Q) X.xe s := by
  have hq := h (s.heap.objs.size + 1) s.heap.objs.size (I.hok.fresh (Nat.le_succ _)) (I.hok.fresh (Nat.le_refl _)) (Nat.ne_of_lt (Nat.lt_succ_self _))
  have I2 := Inv.made (C := C) I
  have r2 : Vals (V.ref (s.heap.objs.size + 1) :: vs) (Value.ref (s.heap.objs.size + 1) :: us) := .cons rfl r
  have hl : (Value.ref (s.heap.objs.size + 1) :: us ++ []).length = ps.length := by
    have e := r2.length
    rw [F.len _ _ _ _ hq] at e
    rw [List.append_nil]
    exact e.symm
  have b := hb _ (Value.ref (s.heap.objs.size + 1) :: us) I2.kIn hl
  rw [List.append_nil] at b
  refine wpAny_call (make_map (f := f) I.kIn M.makes M.init (beq_iff_eq.mp M.fn) (codeAny_mono (F.run _ X.stack _ _ ⟨Value.ref (s.heap.objs.size + 1) :: us, []⟩ (Value.ref (s.heap.objs.size + 1) :: us) _ _ (E σ) (hr.make C us [])
    (I2.env0.make C us []) b r2 hq) fun r s' hq' => ?_))
  cases r with
  | error e => exact hx pins _ _ e s' I2 hq'
  | ok fl =>
    cases fl with
    | ret u =>
      obtain ⟨v, H', I3, rv, ev, q3⟩ := I2.after hq'
      subst ev
      exact ⟨rv, ⟨V.ref (s.heap.objs.size + 1), H', I3, rfl, q3⟩⟩
    | next => exact False.elim hq'
    | brk => exact False.elim hq'
    | cont => exact False.elim hq'
theorem pe_mks {W : WX} (c : MakX X.prog X.w X.K X.mg X.base k x C sp) (hr : Room j X.A) (hk : k + 1 ≤ j) (tk : Takes X W) (hg : Gl X x) (ha : PA X (e :: es) t)
    (hdb : (x == ("__debug__" : Str)) = false := by decide) (he : starEach (e :: es) X.env = (false, eval e X.env) :: starEach es X.env := by rfl) (hpl : (backTo pos (starEach es X.env)).any (·.1) = false := by rfl) :
    PE X (.Call (.Name x p) (e :: es) [] pos) (tMakeS C sp (WE W) t) := by
  obtain ⟨f, fd, ps, M, F, hm, b⟩ := c.ex
  refine ⟨fun pins s σ H Q I h => ?_⟩
  refine wpAny_Call_Name_kw (ld_glob I hg hm ?_ hdb)
  refine PySem.W.callWith_K (h₀ := X.base) I.ok.mod.kin M.kp (thn (ha.run pos pins s σ H _ I h) fun us s1 ⟨vs, H1, I1, r, q⟩ => ⟨I1.kIn, ?_⟩) he hpl
  exact run_makeS M F (hr.mono hk) b (passAt tk σ) I1 r q
def tMethS (C : Addr) (m : Str) (sp : Sp) (E : L2.St → XK) (ta : TE) (t : TA) : TE := fun σ H Q => ta σ H fun x H1 => ∃ a dx fs, x = .ref a ∧ H1 a = some (.ins C dx fs) ∧ fs.lookup m = none ∧
  t σ H1 fun vs H2 => sp (x :: vs) H2 Q (E σ)
theorem pe_mts {pl : Sem Bool} {W : WX} (c : MetX X.prog X.w X.K X.mg X.base k C m sp) (hr : Room j X.A) (hk : k ≤ j) (tk : Takes X W) (he : PE X o ta) (ha : PA X (e :: es) t)
    (hst : starEach (e :: es) X.env = (false, eval e X.env) :: starEach es X.env := by rfl) (hpl : (backTo pos (starEach es X.env)).any (·.1) = false := by rfl)
    (ht : eval (.Call (.Attribute o m apos) (e :: es) [] pos) X.env = (do
      let ov ← eval o X.env
      standAt apos.atName
      let (f, first) ← holding [ov] (getMethod ov m pl)
      callWith pos f first (backTo pos (starEach (e :: es) X.env)) (backToKw pos (keywordEach [] X.env))) := by rfl) :
    PE X (.Call (.Attribute o m apos) (e :: es) [] pos) (tMethS C m sp (WE W) ta t) := by
  obtain ⟨f, fd, ps, hc, hm, F, b⟩ := c.ex
  refine ⟨fun pins s σ H Q I h => ?_⟩
  refine PySem.W.methodCall_KW (pl := pl) (thn (he.run pins s σ H _ I h) fun u s1 ⟨x, H1, I1, rx, a, dx, fs, ex, ea, l, q⟩ => ?_) ht
  subst ex
  obtain rfl : u = Value.ref a := rx
  refine getmeth_ok I1 ea hc hm l ?_
  refine PySem.W.callWith_K (first := [.ref a]) (h₀ := X.base) I.ok.mod.kin hm.kp (thn (ha.run pos pins s1 σ H1 _ I1 q) fun us s2 ⟨vs, H2, I2, r, q2⟩ => ⟨I2.kIn, ?_⟩) hst hpl
  exact run_fnS (us := .ref a :: us) (vs := .ref a :: vs) F (hr.mono hk) b (passAt tk σ) I2 (.cons rfl r) q2
end
end Dw
namespace Dw
open PySem PySem.Spec PyProof.Rows L2 SX
/-- what is drawn from, later -/
def Cell (H : Hp) (p q : Addr) : Prop := ∃ a v x : Int, H p = some (.lst [.ref q, .int a, .int v, .int x]) ∧ 0 ≤ a ∧ 0 ≤ v
theorem Draw.cell {K : PySem.W.Frag} {H : Hp} {p q : Addr} {ns : List Int} (h : Draw K H p q ns) : Cell H p q := h.2
theorem Draw.re {K : PySem.W.Frag} {H H' : Hp} {p q : Addr} {ns : List Int} (d : Draw K H p q ns) (b : But p H H') (c : Cell H' p q) : Draw K H' p q ns := ⟨fun H2 b2 => d.1 H2 (b.trans b2), c⟩
theorem Cell.upd {H : Hp} {p q t : Addr} {o : HO} (h : Cell H p q) (n : t ≠ p) : Cell (upd H t o) p q := by
  obtain ⟨a, v, x, hp, h0, h1⟩ := h
  exact ⟨a, v, x, by rw [upd_ne n.symm]; exact hp, h0, h1⟩
/-- a new object is changed -/
theorem Draw.upd {K : PySem.W.Frag} {H H' : Hp} {p q t : Addr} {ns : List Int} {o : HO} (d : Draw K H p q ns) (b : But p H H') (d' : Draw K H' p q ns) (ht : H t = none) : Draw K (upd H' t o) p q ns := d.re (b.new ht) (d'.cell.upd (d.ne ht))
theorem Draw.free {K : PySem.W.Frag} {H H' : Hp} {p q t : Addr} {ns : List Int} (d : Draw K H p q ns) (b : But p H H') (d' : Draw K H' p q ns) (ht : H' t = none) : H t = none := b.none (d'.ne ht) ht
theorem rgV_zero (n : Nat) : rgV 0 (n : Int) = ((List.range n).map fun x => x).map nv := by
  unfold rgV
  rw [List.map_map, Int.sub_zero, Int.toNat_natCast]
  refine List.map_congr_left fun i _ => ?_
  show V.int (0 + (i : Int)) = V.int (i : Int)
  rw [Int.zero_add]
/-- a row is changed where it stands -/
theorem RowsAt.upd {H : Hp} {rs : List Addr} {T : List (List Int)} {k : Nat} {a : Addr} {r : List Int} (h : RowsAt H rs T) (nd : rs.Nodup) (e : rs[k]? = Option.some a) : RowsAt (L2.upd H a (.lst (r.map V.int))) rs (T.set k r) := by
  refine ⟨by rw [List.length_set, h.len], fun i b q h1 h2 => ?_⟩
  rw [List.getElem?_set] at h2
  by_cases hk : k = i
  · subst hk
    rw [e] at h1
    cases h1
    rw [if_pos rfl] at h2
    split at h2
    · cases h2
      exact upd_same
    · cases h2
  · rw [if_neg hk] at h2
    have hne : b ≠ a := fun z => by
      subst z
      have l1 := (List.getElem?_eq_some_iff.mp e)
      have l2 := (List.getElem?_eq_some_iff.mp h1)
      obtain ⟨i1, x1⟩ := l1
      obtain ⟨i2, x2⟩ := l2
      rcases Nat.lt_or_gt_of_ne hk with hl | hl
      · exact List.pairwise_iff_getElem.mp nd k i i1 i2 hl (by rw [x1, x2])
      · exact List.pairwise_iff_getElem.mp nd i k i2 i1 hl (by rw [x1, x2])
    rw [upd_ne hne]
    exact h.at_ i b q h1 h2
theorem nodup_snoc {α : Type} {l : List α} {a : α} (h : l.Nodup) (n : a ∉ l) : (l ++ [a]).Nodup := by
  rw [List.nodup_append]
  refine ⟨h, by simp, fun x hx y hy e => ?_⟩
  rw [List.mem_singleton] at hy
  exact n (hy ▸ e ▸ hx)
end Dw
namespace Dw
open PySem PySem.Spec PyProof.Rows L2 SX
/-! a tuple times an int, 1 as well -/
theorem tuple_mul1 (l : Addr) (items : Array Value) (n : Nat) (sl : Array (Option Value)) (dd : Option Addr) (u : Tok) :
    Meets (Builtin.«tuple.__mul__» ⟨[.ref l, .int 1 u], []⟩) (fun _ R s => s.heap.get? l = some { cls := .type "tuple", dict := dd, data := .seq items n, slots := sl } ∧ R (.ok (.ret (Value.ref l))) s) :=
  .of_wp fun prog w A R s h => by
    obtain ⟨hp, g, d, tk, os⟩ := s
    obtain ⟨hl, h⟩ := h
    have f1 := AutoSeq1.idx_int
    have c1 : (items.isEmpty || (1 : Int) == 1) = true := by simp
    have c0 : (decide ((1 : Int) < -(2 ^ 63)) || decide ((1 : Int) ≥ 2 ^ 63)) = false := by decide
    wp_walk using wpAny_loadPart' hl
    repeat (first
      | (refine wpAny_ite_false (decide_eq_false (by rw [c0]; exact Bool.false_ne_true)) ?_; wp_walk using wpAny_loadPart' hl)
      | (refine wpAny_ite_true (decide_eq_true c1) ?_; wp_walk using wpAny_loadPart' hl))
    exact ⟨_, rfl, h⟩
def rRepA (K : PySem.W.Frag) : R2 := fun x y H Q => ∃ l k xs, x = .ref l ∧ y = .int k ∧ SqT K H l xs ∧ xs ≠ [] ∧ 1 ≤ k ∧ k ≤ 1000 ∧ xs.length ≤ 1000 ∧ (k = 1 → Q (.ref l) H) ∧ (2 ≤ k → ∀ p, H p = none → Q (.ref p) (upd H p (.tup (List.replicate k.toNat xs).flatten)))
theorem op_repA0 {X : Cx} : OpR X (binaryOp .Mult) (rRepA X.K) := by
  intro pins s σ H x y v u Q I rx ry h
  obtain ⟨l, k, xs, ex, ey, hT, hne, h1, h2, hz, q1, q2⟩ := h
  by_cases hk : k = 1
  · subst hk
    subst ex
    subst ey
    cases rx
    obtain ⟨t, rfl⟩ := ry
    obtain ⟨its, r, ⟨⟨cls, dd, data, sl⟩, ho, hc, n, hd⟩, hs⟩ := I.tuple hT
    simp only at hc hd
    subst hc hd
    refine wpAny_binaryOp_repeat_ref (T := "tuple") (U := "int") (by decide) ⟨_, ho, rfl⟩ (fun s' => typeIs_int s' 1 t) noFill_tuple_mul F.fills_int_mul F.slot_int_rmul repeat_tuple F.slot_int_index.lookup
      (call_meets F.slot_int_rmul (typeIs_int s 1 t) F.entry_int_rmul (F.args_int_rmul_2 _ _) (int_rmul_tuple 1 t l its.toArray n dd sl)
        ⟨ho, rfl, ⟨_, ho, rfl⟩, call_meets F.slot_tuple_mul ⟨_, ho, rfl⟩ F.entry_tuple_mul (F.args_tuple_mul_2 _ _) (tuple_mul1 l its.toArray n sl dd t) ⟨ho, ?_⟩⟩)
    exact ⟨.ref l, H, I, rfl, q1 rfl⟩
  · exact op_repT pins s σ H x y v u Q I rx ry ⟨l, k, xs, ex, ey, hT, hne, by omega, h2, hz, q2 (by omega)⟩
theorem op_repA {X : Cx} (K : PySem.W.Frag) (h : X.K = K := by rfl) : OpR X (binaryOp .Mult) (rRepA K) := h ▸ op_repA0
/-! what is due of a machine's parts -/
def setM (T : List (List Int)) (acc : List Bool) : Bool := (List.range T.length).all fun i => decide (acc[i]? = acc[nxt T i 0]?)
def dueM (w : Int) (T : List (List Int)) (acc : List Bool) : Option (Bool × String) :=
  if ¬ (0 ≤ w ∧ w ≤ 6) then some (true, "width")
  else if 400 < T.length then some (false, "states")
  else if T = [] ∨ acc.length ≠ T.length ∨ goodT T (2 ^ w.toNat) = false then some (true, "table")
  else if setM T acc = false then some (true, "settled")
  else none
section
variable {w : Int} {T : List (List Int)} {acc : List Bool}
theorem dm1 (h : ¬ (0 ≤ w ∧ w ≤ 6)) : dueM w T acc = some (true, "width") := by
  unfold dueM
  rw [if_pos h]
theorem dm2 (h : 0 ≤ w ∧ w ≤ 6) (h2 : 400 < T.length) : dueM w T acc = some (false, "states") := by
  unfold dueM
  rw [if_neg (fun z => z h), if_pos h2]
theorem dm3 (h : 0 ≤ w ∧ w ≤ 6) (h2 : ¬ 400 < T.length) (h3 : T = [] ∨ acc.length ≠ T.length ∨ goodT T (2 ^ w.toNat) = false) : dueM w T acc = some (true, "table") := by
  unfold dueM
  rw [if_neg (fun z => z h), if_neg h2, if_pos h3]
theorem dm4 (h : 0 ≤ w ∧ w ≤ 6) (h2 : ¬ 400 < T.length) (h3 : ¬ (T = [] ∨ acc.length ≠ T.length ∨ goodT T (2 ^ w.toNat) = false)) (h4 : setM T acc = false) : dueM w T acc = some (true, "settled") := by
  unfold dueM
  rw [if_neg (fun z => z h), if_neg h2, if_neg h3, if_pos h4]
theorem dm5 (h : 0 ≤ w ∧ w ≤ 6) (h2 : ¬ 400 < T.length) (h3 : ¬ (T = [] ∨ acc.length ≠ T.length ∨ goodT T (2 ^ w.toNat) = false)) (h4 : setM T acc = true) : dueM w T acc = none := by
  unfold dueM
  rw [if_neg (fun z => z h), if_neg h2, if_neg h3, if_neg (by rw [h4]; decide)]
theorem setM_no {i : Nat} (hi : i < T.length) (h : acc[i]? ≠ acc[nxt T i 0]?) : setM T acc = false := by
  unfold setM
  rw [List.all_eq_false]
  exact ⟨i, List.mem_range.mpr hi, by simpa using h⟩
theorem setM_yes (h : ∀ i, i < T.length → acc[i]? = acc[nxt T i 0]?) : setM T acc = true := by
  unfold setM
  rw [List.all_eq_true]
  exact fun i hi => decide_eq_true (h i (List.mem_range.mp hi))
theorem setM_at (h : setM T acc = true) : ∀ i, i < T.length → acc[i]? = acc[nxt T i 0]? := fun i hi => by
  have := List.all_eq_true.mp h i (List.mem_range.mpr hi)
  exact of_decide_eq_true this
theorem MOk.due {n : Nat} (h : MOk n T acc) : dueM (n : Int) T acc = none := by
  have h6 := h.w6
  have h4 := h.le
  refine dm5 ⟨by omega, by omega⟩ (by omega) ?_ (setM_yes h.set)
  rw [Int.toNat_natCast]
  rintro (z | z | z)
  · have := h.pos
    rw [z] at this
    cases this
  · exact z h.al
  · rw [h.good] at z
    cases z
theorem MOk.of_due (h : dueM w T acc = none) : MOk w.toNat T acc ∧ 0 ≤ w ∧ w ≤ 6 := by
  unfold dueM at h
  split at h
  · cases h
  · rename_i h1
    split at h
    · cases h
    · rename_i h2
      split at h
      · cases h
      · rename_i h3
        split at h
        · cases h
        · rename_i h4
          have h1' : 0 ≤ w ∧ w ≤ 6 := Classical.not_not.mp h1
          simp only [not_or, ne_eq, Decidable.not_not] at h3
          refine ⟨⟨by omega, List.length_pos_iff.mpr h3.1, by omega, by simpa using h3.2.2, h3.2.1, setM_at (by simpa using h4)⟩, h1'⟩
end
/-- what a making ends in -/
def MRes (C CM CO m : Addr) (w : Int) (T : List (List Int)) (acc : List Bool) (H : Hp) (Q : VK) (E : XK) : Option (Bool × String) → Prop
  | none => ∀ H', But m H H' → MachNew C H H' m w.toNat T acc → Q .non H'
  | some (true, s) => Rz CM "why" (.str (Str.ofString s)) H E
  | some (false, s) => Rz CO "limit" (.str (Str.ofString s)) H E
/-! shapes -/
structure TupsAt (H : Hp) (ts : List Addr) (T : List (List Int)) : Prop where
  len : ts.length = T.length
  at_ : ∀ (i : Nat) (a : Addr) (r : List Int), ts[i]? = some a → T[i]? = some r → H a = some (.tup (r.map V.int))
theorem TupsAt.same {H H' : Hp} {ts : List Addr} {T : List (List Int)} (h : TupsAt H ts T) (s : Same H H') : TupsAt H' ts T := ⟨h.len, fun i a r h1 h2 => s _ _ (h.at_ i a r h1 h2)⟩
theorem TupsAt.snoc {H : Hp} {ts : List Addr} {T : List (List Int)} {a : Addr} {r : List Int} (h : TupsAt H ts T) (e : H a = some (.tup (r.map V.int))) : TupsAt H (ts ++ [a]) (T ++ [r]) := by
  refine ⟨by rw [List.length_append, List.length_append, h.len]; rfl, fun i b q h1 h2 => ?_⟩
  by_cases hi : i < ts.length
  · rw [List.getElem?_append_left hi] at h1
    rw [List.getElem?_append_left (by rw [← h.len]; exact hi)] at h2
    exact h.at_ i b q h1 h2
  · rw [List.getElem?_append_right (by omega)] at h1
    rw [List.getElem?_append_right (by rw [← h.len]; omega), ← h.len] at h2
    cases hk : i - ts.length with
    | zero =>
      rw [hk] at h1 h2
      cases h1
      cases h2
      exact e
    | succ k =>
      rw [hk] at h1
      cases h1
def ShapeAt (H : Hp) (s : Addr) (w : Nat) (T : List (List Int)) (acc : List Bool) : Prop := ∃ tt ta ts, H s = some (.tup [nv w, .ref tt, .ref ta]) ∧ H tt = some (.tup (ts.map V.ref)) ∧ TupsAt H ts T ∧ H ta = some (.tup (acc.map V.bl))
theorem ShapeAt.same {H H' : Hp} {s : Addr} {w : Nat} {T : List (List Int)} {acc : List Bool} (h : ShapeAt H s w T acc) (e : Same H H') : ShapeAt H' s w T acc := by
  obtain ⟨tt, ta, ts, h1, h2, h3, h4⟩ := h
  exact ⟨tt, ta, ts, e _ _ h1, e _ _ h2, h3.same e, e _ _ h4⟩
def trowD (r : List Int) : PyData := .tuple (r.map intD)
def shapeD (w : Nat) (T : List (List Int)) (acc : List Bool) : PyData := .tuple [.int (w : Int), .tuple (T.map trowD), .tuple (acc.map boolD)]
theorem tups_dp {K : PySem.W.Frag} {H : Hp} : ∀ {ts : List Addr} {T : List (List Int)}, TupsAt H ts T → DpAll K H (ts.map V.ref) (T.map trowD)
  | [], [], _ => .nil
  | a :: rs, r :: T, h => .cons (.tup (SqT.of (h.at_ 0 a r rfl rfl)) (ints_dp r)) (tups_dp (ts := rs) (T := T) ⟨Nat.succ.inj h.len, fun i a' r' h1 h2 => h.at_ (i + 1) a' r' h1 h2⟩)
  | [], _ :: _, h => nomatch h.len
  | _ :: _, [], h => nomatch h.len
theorem ShapeAt.dp {K : PySem.W.Frag} {H : Hp} {s : Addr} {w : Nat} {T : List (List Int)} {acc : List Bool} (h : ShapeAt H s w T acc) : Dp K H (.ref s) (shapeD w T acc) := by
  obtain ⟨tt, ta, ts, h1, h2, h3, h4⟩ := h
  exact .tup (SqT.of h1) (.cons (.int _) (.cons (.tup (SqT.of h2) (tups_dp h3)) (.cons (.tup (SqT.of h4) (bools_dp acc)) .nil)))
theorem trows_lay : ∀ T : List (List Int), PyData.canLayAll0 (T.map trowD) = true
  | [] => by simp [PyData.canLayAll0]
  | n :: r => by simp [PyData.canLayAll0, trowD, PyData.canLay0, ints_lay n, trows_lay r]
theorem trows_depth : ∀ T : List (List Int), PyData.depthAll (T.map trowD) ≤ 1
  | [] => by simp [PyData.depthAll]
  | n :: r => by
    have := trows_depth r
    simp [PyData.depthAll, trowD, PyData.depth, ints_depth n]
    omega
theorem shape_shaped (w : Nat) (T : List (List Int)) (acc : List Bool) : SeqAt.shaped (shapeD w T acc) = true := by
  have := trows_depth T
  simp [shapeD, SeqAt.shaped, PyData.canLay0, PyData.canLayAll0, PyData.depth, PyData.depthAll, trows_lay, bools_lay, bools_depth]
  omega
/-! a property -/
structure Prp (P : Program) (w : World) (K : PySem.W.Frag) (mg : Str → Option Value) (base : Heap) (k : Nat) (C : Addr) (m : Str) (sp : Sp) : Prop where
  ex : ∃ (p g : Addr) (fd : FuncData) (ps : List Str), Cls K C ∧ PropOf K C m p g ∧ FnOk P w K mg base C8.CX0 k g fd ps sp ∧ Binds K fd ps []
theorem prp0 {P : Program} {w : World} {K : PySem.W.Frag} {mg : Str → Option Value} {base : Heap} {m qual : Str} {C p : Addr} {st : Stmt} {f : Addr} {fd : FuncData} {N ps : List Str} {k : Nat} {sp : Sp} (c : Cls K C) (me : PropOf K C m p f) (F : C8.Fun K m qual st f fd) (b : Binds K fd ps []) (S : FnScope N ps (C8.fnScope st)) (len : ∀ vs H Q E, sp vs H Q E → vs.length = ps.length)
    (hbody : ∀ (cdv : Value) (A : Around) (outer : List Env) (s : Shared) (H : Hp) (vs : List V) (Q : VK) (E : XK), Room k (A.deeper (envOfC qual (C8.fnScope st) s.heap.objs.size f cdv)) → sp vs H Q E →
      ∃ t, PSs (cxOf C8.CX0 P w K mg base N qual (C8.fnScope st) f cdv A outer s H E).nox (C8.fnBody st) t ∧ t { nx := fun _ H' => Q .non H', rt := Q } (start N vs) H) : Prp P w K mg base (k + 1) C m sp :=
  ⟨p, f, fd, ps, c, me, C8.fn0 F S len hbody, b⟩
theorem pe_pr {X : Cx} {k j : Nat} {C : Addr} {m : Str} {sp : Sp} {e : Expr} {ta : TE} {pos : Pos} (c : Prp X.prog X.w X.K X.mg X.base k C m sp) (hr : Room j X.A) (hk : k + 1 ≤ j) (he : PE X e ta) (hab : attributeBase e m X.env (eval e X.env) = eval e X.env) : PE X (.Attribute e m pos) (tProp C sp [] C8.E0 ta) := by
  obtain ⟨p, g, fd, ps, hc, hp, F, b⟩ := c.ex
  exact pe_prop he hc hp F (hr.mono hk) b .nil C8.pass0 hab
/-! numbers that are halved, digits of a word -/
theorem halves_sum : ∀ (ns : List Nat) (k : Nat), (ns.map fun n => ((n / 2 ^ k : Nat) : Int)).sum = 0 ↔ bls ns ≤ k
  | [], k => by simp [bls]
  | n :: r, k => by
    have ih := halves_sum r k
    rw [List.map_cons, List.sum_cons]
    have nn : 0 ≤ (r.map fun n => ((n / 2 ^ k : Nat) : Int)).sum := by
      clear ih
      induction r with
      | nil => simp
      | cons m r ih =>
        rw [List.map_cons, List.sum_cons]
        have := Int.natCast_nonneg (m / 2 ^ k)
        exact Int.add_nonneg this ih
    show _ ↔ max (blen n) (bls r) ≤ k
    rw [Nat.max_le, ← ih]
    have hb : n / 2 ^ k = 0 ↔ blen n ≤ k := by
      constructor
      · intro h
        have h1 := Nat.div_eq_zero_iff.mp h
        rcases h1 with h1 | h1
        · have := Nat.two_pow_pos k
          omega
        · exact blen_le h1
      · intro h
        exact Nat.div_eq_of_lt (Nat.lt_of_lt_of_le (lt_blen n) (Nat.pow_le_pow_right (by decide) h))
    rw [← hb]
    obtain ⟨d, hd⟩ : ∃ d, d = n / 2 ^ k := ⟨_, rfl⟩
    rw [← hd]
    omega
def hvN (ns : List Nat) (k : Nat) : List Nat := ns.map fun n => n / 2 ^ k
theorem bitAt_hv (ns : List Nat) (k : Nat) : bitAt ns k = (hvN ns k).map (· % 2) := by
  unfold bitAt hvN
  rw [List.map_map]
  rfl
theorem hv_succ (ns : List Nat) (k : Nat) : (hvN ns k).map (· / 2) = hvN ns (k + 1) := by
  unfold hvN
  rw [List.map_map]
  refine List.map_congr_left fun n _ => ?_
  show n / 2 ^ k / 2 = n / 2 ^ (k + 1)
  rw [Nat.pow_succ, Nat.div_div_eq_div_mul]
theorem hvN_len (ns : List Nat) (k : Nat) : (hvN ns k).length = ns.length := by simp [hvN]
theorem wd_take (ns : List Nat) : wd ns = (List.range (bls ns)).map fun k => lo (bitAt ns k) := rfl
/-! zeros behind a word -/
theorem MOk.run {w : Nat} {T : List (List Int)} {acc : List Bool} (h : MOk w T acc) {ls : List Nat} (hl : ∀ l ∈ ls, l < 2 ^ w) : runT T 0 ls < T.length := runT_lt h.good ls 0 hl h.pos
theorem MOk.zeros {w : Nat} {T : List (List Int)} {acc : List Bool} (h : MOk w T acc) : ∀ (z s : Nat), s < T.length → acc[runT T s (List.replicate z 0)]? = acc[s]?
  | 0, _, _ => rfl
  | z + 1, s, hs => by
    obtain ⟨_, _, _, h2⟩ := goodT_at h.good hs (a := 0) (Nat.two_pow_pos w)
    show acc[runT T (nxt T s 0) (List.replicate z 0)]? = _
    rw [h.zeros z _ h2, ← h.set s hs]
theorem runT_appM (T : List (List Int)) (s : Nat) (a b : List Nat) : runT T s (a ++ b) = runT T (runT T s a) b := by
  unfold runT
  rw [List.foldl_append]
/-- the machine that takes all or none -/
theorem aon_ok {w : Nat} (hw : w ≤ 6) (v : Bool) : MOk w [List.replicate (2 ^ w) 0] [v] := by
  have hg : goodT [List.replicate (2 ^ w) (0 : Int)] (2 ^ w) = true := by
    unfold goodT goodRow
    simp
  refine ⟨hw, Nat.zero_lt_one, by simp, hg, rfl, fun i hi => ?_⟩
  have : i = 0 := by simpa using hi
  subst this
  obtain ⟨_, _, _, h⟩ := goodT_at hg (s := 0) (a := 0) Nat.zero_lt_one (Nat.two_pow_pos w)
  have : nxt [List.replicate (2 ^ w) (0 : Int)] 0 0 = 0 := by
    have h' : nxt [List.replicate (2 ^ w) (0 : Int)] 0 0 < 1 := h
    omega
  rw [this]
section
variable {X : Cx} (K : PySem.W.Frag)
theorem maxK (hc : X.calm = true := by rfl) (h : X.K = K := by rfl) : CallR X (.builtin "max") (rMax K) := h ▸ cr_max hc
end
theorem RowsAt.app {H : Hp} {a b : List Addr} {A B : List (List Int)} (h : RowsAt H a A) (g : RowsAt H b B) : RowsAt H (a ++ b) (A ++ B) := by
  refine ⟨by rw [List.length_append, List.length_append, h.len, g.len], fun i x r h1 h2 => ?_⟩
  by_cases hi : i < a.length
  · rw [List.getElem?_append_left hi] at h1
    rw [List.getElem?_append_left (by rw [← h.len]; exact hi)] at h2
    exact h.at_ i x r h1 h2
  · rw [List.getElem?_append_right (by omega)] at h1
    rw [List.getElem?_append_right (by rw [← h.len]; omega), ← h.len] at h2
    exact g.at_ _ x r h1 h2
theorem RowsAt.tk {H : Hp} {a : List Addr} {A : List (List Int)} (h : RowsAt H a A) (k : Nat) : RowsAt H (a.take k) (A.take k) := by
  refine ⟨by rw [List.length_take, List.length_take, h.len], fun i x r h1 h2 => ?_⟩
  rw [List.getElem?_take] at h1 h2
  split at h1
  · rename_i hi
    rw [if_pos hi] at h2
    exact h.at_ i x r h1 h2
  · cases h1
theorem RowsAt.dp {H : Hp} {a : List Addr} {A : List (List Int)} (h : RowsAt H a A) (k : Nat) : RowsAt H (a.drop k) (A.drop k) := by
  refine ⟨by rw [List.length_drop, List.length_drop, h.len], fun i x r h1 h2 => ?_⟩
  rw [List.getElem?_drop] at h1 h2
  exact h.at_ _ x r h1 h2
theorem RowsAt.one {H : Hp} {a : Addr} {r : List Int} (h : H a = Option.some (.lst (r.map V.int))) : RowsAt H [a] [r] := ⟨rfl, fun i x r' h1 h2 => match i, h1, h2 with
  | 0, h1, h2 => by cases h1; cases h2; exact h⟩
theorem RowsAt.rep {H : Hp} {a : Addr} {r : List Int} (h : H a = Option.some (.lst (r.map V.int))) (n : Nat) : RowsAt H (List.replicate n a) (List.replicate n r) := by
  refine ⟨by rw [List.length_replicate, List.length_replicate], fun i x r' h1 h2 => ?_⟩
  rw [List.getElem?_replicate] at h1 h2
  split at h1
  · rename_i hi
    rw [if_pos hi] at h2
    cases h1
    cases h2
    exact h
  · cases h1
/-- the row of a table, as a test of what is due -/
theorem goodT_no {T : List (List Int)} {l : Nat} {r : List Int} (h : r ∈ T) (hn : goodRow T.length l r = false) : goodT T l = false := by
  unfold goodT
  rw [List.all_eq_false]
  exact ⟨r, h, by rw [hn]; decide⟩
theorem goodRow_mm {n l : Nat} {r : List Int} (hl : r.length = l) (mn mx : Int) (h1 : mn ∈ r) (h2 : ∀ y ∈ r, mn ≤ y) (h3 : mx ∈ r) (h4 : ∀ y ∈ r, y ≤ mx) : goodRow n l r = (decide (0 ≤ mn) && decide (mx < (n : Int))) := by
  unfold goodRow
  rw [decide_eq_true hl, Bool.true_and, Bool.eq_iff_iff, List.all_eq_true, Bool.and_eq_true, decide_eq_true_eq, decide_eq_true_eq]
  constructor
  · intro h
    have a := h mn h1
    have b := h mx h3
    rw [Bool.and_eq_true, decide_eq_true_eq, decide_eq_true_eq] at a b
    exact ⟨a.1, b.2⟩
  · intro h x hx
    have a := h2 x hx
    have b := h4 x hx
    rw [Bool.and_eq_true, decide_eq_true_eq, decide_eq_true_eq]
    omega
/-- rows as tuples -/
theorem lc_tups {K : PySem.W.Frag} {t : Addr} {rs : List Addr} {T : List (List Int)} {g : TG} {te : TE} {vs : List Nat} {σ : L2.St} {H1 : Hp} {D : Addr} {Qd : Hp → Prop} (h1 : H1 t = some (.lst (rs.map V.ref))) (hr : RowsAt H1 rs T) (hn : T.length ≤ 500) (hD : H1 D = none)
    (step : ∀ a (r : List Int) H (N : VK), H a = some (.lst (r.map V.int)) → (∀ L, H L = none → N (.ref L) (upd H L (.tup (r.map V.int)))) → g (.ref a) (wipe σ vs) H fun σ2 H2 => wipe σ2 vs = wipe σ vs ∧ te σ2 H2 N)
    (hd : ∀ H' qs, Same H1 H' → H' D = some (.lst (qs.map V.ref)) → TupsAt H' qs T → Qd H') : LcJ (Itl K t) g tYes te vs D σ H1 Qd := by
  refine lc_listN (xs := rs.map V.ref) (fun i H4 => ∃ qs : List Addr, H4 D = some (.lst (qs.map V.ref)) ∧ TupsAt H4 qs (T.take i) ∧ Same H1 H4) ?_ ?_ ?_ ?_
  · exact ⟨[], upd_same, ⟨rfl, fun i a r h _ => nomatch h⟩, same_upd hD⟩
  · rintro i H4 _ ⟨qs, _, _, s4⟩
    exact SqL.of (s4 _ _ h1)
  · rintro i x H4 N2 hx ⟨qs, e4, q4, s4⟩ hN2
    rw [List.getElem?_map] at hx
    obtain ⟨ra, hra, rfl⟩ := Option.map_eq_some_iff.mp hx
    have hi : i < T.length := by rw [← hr.len]; exact (List.getElem?_eq_some_iff.mp hra).1
    have hTi : T[i]? = some T[i] := List.getElem?_eq_getElem hi
    have hrow := s4 _ _ (hr.at_ i ra T[i] hra hTi)
    have hql : qs.length ≤ 500 := by
      have := q4.len
      rw [List.length_take] at this
      omega
    refine step ra T[i] H4 (fun y H5 => ∃ acc, H5 D = some (.lst acc) ∧ acc.length < sizeLine ∧ N2 (upd H5 D (.lst (acc ++ [y])))) hrow fun L hL => ⟨_, (same_upd hL) _ _ e4, smallt (by rw [List.length_map]; omega), hN2 _ ⟨qs ++ [L], ?_, ?_, Dw.Same.new (s4.trans (same_upd hL)) hD⟩⟩
    · rw [upd_same, List.map_append]
      rfl
    · rw [List.take_add_one, hTi]
      have q5 := TupsAt.snoc (q4.same (same_upd hL)) (r := T[i]) upd_same
      refine ⟨q5.len, fun j a' r' e1 e2 => ?_⟩
      have h5 := q5.at_ j a' r' e1 e2
      rw [upd_ne]
      · exact h5
      · intro z
        subst z
        rw [(same_upd hL) _ _ e4] at h5
        cases h5
  · rintro H4 ⟨qs, e4, q4, s4⟩
    rw [List.length_map, hr.len, List.take_length] at q4
    exact hd H4 qs s4 e4 q4
/-- a machine and the parts that it was made of -/
structure Bg (K : PySem.W.Frag) (C p q : Addr) (ns : List Int) (t a : Addr) (rs : List Addr) (w : Nat) (T : List (List Int)) (acc : List Bool) (L : List Addr) (m : Addr) (H : Hp) : Prop where
  draw : Draw K H p q ns
  ht : H t = some (.lst (rs.map V.ref))
  rows : RowsAt H rs T
  ha : H a = some (.lst (acc.map V.bl))
  mach : MachP C H L m w T acc
  nt : t ≠ p
  na : a ≠ p
  nr : ∀ y ∈ rs, y ≠ p
  nL : p ∉ L
section
variable {K : PySem.W.Frag} {C p q : Addr} {ns : List Int} {t a : Addr} {rs : List Addr} {w : Nat} {T : List (List Int)} {acc : List Bool} {L : List Addr} {m : Addr} {H H' : Hp}
theorem Bg.same (h : Bg K C p q ns t a rs w T acc L m H) (s : Same H H') : Bg K C p q ns t a rs w T acc L m H' := ⟨h.draw.same s, s _ _ h.ht, h.rows.same s, s _ _ h.ha, h.mach.same s, h.nt, h.na, h.nr, h.nL⟩
theorem Bg.but (h : Bg K C p q ns t a rs w T acc L m H) (b : But p H H') (d : Draw K H' p q ns) : Bg K C p q ns t a rs w T acc L m H' := ⟨d, b _ _ h.nt h.ht, h.rows.but b h.nr, b _ _ h.na h.ha, h.mach.but b h.nL, h.nt, h.na, h.nr, h.nL⟩
end
end Dw
namespace Dw
/-! ranks: how many free letters lead to an accepting state -/
section
variable (acc : Nat → Bool) (f g : Nat → Nat)
def canK : Nat → Nat → Bool
  | 0, s => acc s
  | k + 1, s => canK k (f s) || canK k (g s)
def IsRank (s : Nat) : Option Nat → Prop
  | some k => canK acc f g k s = true ∧ ∀ j, j < k → canK acc f g j s = false
  | none => ∀ k, canK acc f g k s = false
def rkUp (r s : Nat) : Option Nat := (List.range (r + 1)).find? fun k => canK acc f g k s
end
section
variable {acc : Nat → Bool} {f g : Nat → Nat}
theorem IsRank.uniq {s : Nat} {a b : Option Nat} (h1 : IsRank acc f g s a) (h2 : IsRank acc f g s b) : a = b := by
  match a, b, h1, h2 with
  | none, none, _, _ => rfl
  | none, some k, h1, h2 => have := h2.1; rw [h1 k] at this; cases this
  | some k, none, h1, h2 => have := h1.1; rw [h2 k] at this; cases this
  | some k, some l, h1, h2 =>
    rcases Nat.lt_trichotomy k l with h | h | h
    · have := h1.1; rw [h2.2 k h] at this; cases this
    · rw [h]
    · have := h2.1; rw [h1.2 l h] at this; cases this
theorem rkUp_none {r s : Nat} : rkUp acc f g r s = none ↔ ∀ j, j ≤ r → canK acc f g j s = false := by
  unfold rkUp
  rw [List.find?_eq_none]
  constructor
  · intro h j hj
    have := h j (List.mem_range.mpr (by omega))
    simpa using this
  · intro h j hj
    rw [h j (by have := List.mem_range.mp hj; omega)]
    decide
theorem rkUp_some {r s d : Nat} : rkUp acc f g r s = some d ↔ d ≤ r ∧ canK acc f g d s = true ∧ ∀ j, j < d → canK acc f g j s = false := by
  unfold rkUp
  rw [List.find?_range_eq_some]
  constructor
  · rintro ⟨h1, h2, h3⟩
    refine ⟨by have := List.mem_range.mp h2; omega, h1, fun j hj => ?_⟩
    have := h3 j hj
    simpa using this
  · rintro ⟨h1, h2, h3⟩
    exact ⟨h2, List.mem_range.mpr (by omega), fun j hj => by rw [h3 j hj]; rfl⟩
theorem rkUp_zero (s : Nat) : rkUp acc f g 0 s = if acc s = true then some 0 else none := by
  split
  · rename_i h
    exact rkUp_some.mpr ⟨Nat.le_refl _, h, fun j hj => absurd hj (Nat.not_lt_zero _)⟩
  · rename_i h
    refine rkUp_none.mpr fun j hj => ?_
    have : j = 0 := by omega
    subst this
    show acc s = false
    simpa using h
/-- rank r is not given to a state later -/
theorem rkUp_same {r s : Nat} : rkUp acc f g (r + 1) s = some r ↔ rkUp acc f g r s = some r := by
  rw [rkUp_some, rkUp_some]
  constructor
  · rintro ⟨_, h⟩; exact ⟨Nat.le_refl _, h⟩
  · rintro ⟨_, h⟩; exact ⟨Nat.le_succ _, h⟩
theorem rkUp_keep {r s d : Nat} (h : rkUp acc f g r s = some d) : rkUp acc f g (r + 1) s = some d := by
  rw [rkUp_some] at h ⊢
  exact ⟨by omega, h.2⟩
theorem rkUp_new {r s : Nat} (h : rkUp acc f g r s = none) : rkUp acc f g (r + 1) s = if rkUp acc f g r (f s) = some r ∨ rkUp acc f g r (g s) = some r then some (r + 1) else none := by
  have h0 := rkUp_none.mp h
  have low : ∀ j, j < r → canK acc f g j (f s) = false ∧ canK acc f g j (g s) = false := fun j hj => by
    have := h0 (j + 1) (by omega)
    exact Bool.or_eq_false_iff.mp this
  split
  · rename_i hc
    refine rkUp_some.mpr ⟨Nat.le_refl _, ?_, fun j hj => h0 j (by omega)⟩
    show (canK acc f g r (f s) || canK acc f g r (g s)) = true
    rcases hc with hc | hc
    · rw [(rkUp_some.mp hc).2.1, Bool.true_or]
    · rw [(rkUp_some.mp hc).2.1, Bool.or_true]
  · rename_i hc
    refine rkUp_none.mpr fun j hj => ?_
    by_cases hj' : j ≤ r
    · exact h0 j hj'
    · have : j = r + 1 := by omega
      subst this
      show (canK acc f g r (f s) || canK acc f g r (g s)) = false
      rw [Bool.or_eq_false_iff]
      constructor
      · refine Bool.eq_false_iff.mpr fun z => hc (.inl ?_)
        exact rkUp_some.mpr ⟨Nat.le_refl _, z, fun j hj => (low j hj).1⟩
      · refine Bool.eq_false_iff.mpr fun z => hc (.inr ?_)
        exact rkUp_some.mpr ⟨Nat.le_refl _, z, fun j hj => (low j hj).2⟩
/-- when no state has the rank r, all ranks are found -/
theorem rkUp_done {n r : Nat} (hf : ∀ x, x < n → f x < n) (hg : ∀ x, x < n → g x < n) (h : ∀ s, s < n → rkUp acc f g r s ≠ some r) {s : Nat} (hs : s < n) : IsRank acc f g s (rkUp acc f g r s) := by
  have base : ∀ s, s < n → canK acc f g r s = true → ∃ j, j < r ∧ canK acc f g j s = true := fun s hs hc => by
    refine Classical.byContradiction fun z => h s hs (rkUp_some.mpr ⟨Nat.le_refl _, hc, fun j hj => Bool.eq_false_iff.mpr fun y => z ⟨j, hj, y⟩⟩)
  have all : ∀ d s, s < n → canK acc f g (r + d) s = true → ∃ j, j < r ∧ canK acc f g j s = true := by
    intro d
    induction d with
    | zero => exact base
    | succ d ih =>
      intro s hs hc
      have hc' : (canK acc f g (r + d) (f s) || canK acc f g (r + d) (g s)) = true := hc
      rw [Bool.or_eq_true] at hc'
      have up : ∀ j, j < r → (canK acc f g j (f s) = true ∨ canK acc f g j (g s) = true) → ∃ j, j < r ∧ canK acc f g j s = true := fun j hj hh => by
        have h1 : canK acc f g (j + 1) s = true := by
          show (canK acc f g j (f s) || canK acc f g j (g s)) = true
          rw [Bool.or_eq_true]
          exact hh
        by_cases hjr : j + 1 < r
        · exact ⟨j + 1, hjr, h1⟩
        · have : j + 1 = r := by omega
          rw [this] at h1
          exact base s hs h1
      rcases hc' with hc' | hc'
      · obtain ⟨j, hj, h2⟩ := ih _ (hf s hs) hc'
        exact up j hj (.inl h2)
      · obtain ⟨j, hj, h2⟩ := ih _ (hg s hs) hc'
        exact up j hj (.inr h2)
  cases e : rkUp acc f g r s with
  | some d => exact (rkUp_some.mp e).2
  | none =>
    have h0 := rkUp_none.mp e
    intro k
    by_cases hk : k ≤ r
    · exact h0 k hk
    · refine Bool.eq_false_iff.mpr fun z => ?_
      have ek : k = r + (k - r) := by omega
      rw [ek] at z
      obtain ⟨j, hj, h2⟩ := all _ s hs z
      rw [h0 j (by omega)] at h2
      cases h2
theorem rank_lt {n : Nat} (hf : ∀ x, x < n → f x < n) (hg : ∀ x, x < n → g x < n) {r s : Nat} (hs : s < n) (h : IsRank acc f g s (some r)) : r < n := by
  have down : ∀ d s, s < n → IsRank acc f g s (some d) → ∀ i, i ≤ d → ∃ x, x < n ∧ IsRank acc f g x (some i) := by
    intro d
    induction d with
    | zero =>
      intro s hs h i hi
      have : i = 0 := by omega
      subst this
      exact ⟨s, hs, h⟩
    | succ d ih =>
      intro s hs h i hi
      by_cases e : i = d + 1
      · subst e; exact ⟨s, hs, h⟩
      · have h1 : (canK acc f g d (f s) || canK acc f g d (g s)) = true := h.1
        have h2 : ∀ j, j < d → canK acc f g j (f s) = false ∧ canK acc f g j (g s) = false := fun j hj => Bool.or_eq_false_iff.mp (h.2 (j + 1) (by omega))
        rw [Bool.or_eq_true] at h1
        rcases h1 with h1 | h1
        · exact ih (f s) (hf s hs) ⟨h1, fun j hj => (h2 j hj).1⟩ i (by omega)
        · exact ih (g s) (hg s hs) ⟨h1, fun j hj => (h2 j hj).2⟩ i (by omega)
  refine Nat.lt_of_not_le fun hr => ?_
  have pick : ∀ i, ∃ x, i ≤ n → x < n ∧ IsRank acc f g x (some i) := fun i => by
    by_cases hi : i ≤ n
    · obtain ⟨x, h1, h2⟩ := down r s hs h i (by omega)
      exact ⟨x, fun _ => ⟨h1, h2⟩⟩
    · exact ⟨0, fun z => absurd z hi⟩
  obtain ⟨F, hF⟩ : ∃ F : Nat → Nat, ∀ i, i ≤ n → F i < n ∧ IsRank acc f g (F i) (some i) := ⟨fun i => Classical.choose (pick i), fun i => Classical.choose_spec (pick i)⟩
  obtain ⟨i, j, hij, hj, e⟩ := pigeon n F fun i hi => (hF i hi).1
  have h1 := (hF i (by omega)).2
  have h2 := (hF j hj).2
  rw [e] at h1
  have := Option.some.inj (h1.uniq h2)
  omega
/-! a search from the start -/
def rch (f g : Nat → Nat) (s : Nat) : Nat → Nat → Prop
  | 0, x => x = s
  | k + 1, y => ∃ x, rch f g s k x ∧ (y = f x ∨ y = g x)
theorem rch_cons : ∀ (k s y : Nat), rch f g s (k + 1) y ↔ rch f g (f s) k y ∨ rch f g (g s) k y
  | 0, s, y => by
    constructor
    · rintro ⟨x, rfl, h⟩; exact h
    · intro h; exact ⟨s, rfl, h⟩
  | k + 1, s, y => by
    constructor
    · rintro ⟨x, h, hy⟩
      rcases (rch_cons k s x).mp h with h | h
      · exact .inl ⟨x, h, hy⟩
      · exact .inr ⟨x, h, hy⟩
    · rintro (⟨x, h, hy⟩ | ⟨x, h, hy⟩)
      · exact ⟨x, (rch_cons k s x).mpr (.inl h), hy⟩
      · exact ⟨x, (rch_cons k s x).mpr (.inr h), hy⟩
theorem canK_rch : ∀ (k s : Nat), canK acc f g k s = true ↔ ∃ x, rch f g s k x ∧ acc x = true
  | 0, s => by
    constructor
    · intro h; exact ⟨s, rfl, h⟩
    · rintro ⟨x, rfl, h⟩; exact h
  | k + 1, s => by
    show (canK acc f g k (f s) || canK acc f g k (g s)) = true ↔ _
    rw [Bool.or_eq_true, canK_rch k (f s), canK_rch k (g s)]
    constructor
    · rintro (⟨x, h, ha⟩ | ⟨x, h, ha⟩)
      · exact ⟨x, (rch_cons k s x).mpr (.inl h), ha⟩
      · exact ⟨x, (rch_cons k s x).mpr (.inr h), ha⟩
    · rintro ⟨x, h, ha⟩
      rcases (rch_cons k s x).mp h with h | h
      · exact .inl ⟨x, h, ha⟩
      · exact .inr ⟨x, h, ha⟩
theorem nodup_len {n : Nat} : ∀ {l : List Nat}, l.Nodup → (∀ x ∈ l, x < n) → l.length ≤ n := fun {l} h1 h2 => by
  refine Nat.le_of_not_lt fun hlt => ?_
  obtain ⟨i, j, hij, hj, e⟩ := pigeon n (fun i => l.getD i 0) fun i hi => by
    show l.getD i 0 < n
    rw [List.getD_eq_getElem?_getD, List.getElem?_eq_getElem (by omega)]
    exact h2 _ (List.getElem_mem _)
  have := List.pairwise_iff_getElem.mp h1 i j (by omega) (by omega) hij
  refine this ?_
  have e' : l.getD i 0 = l.getD j 0 := e
  rw [List.getD_eq_getElem?_getD, List.getD_eq_getElem?_getD, List.getElem?_eq_getElem (by omega), List.getElem?_eq_getElem (by omega)] at e'
  exact e'
structure BF (acc : Nat → Bool) (f g : Nat → Nat) (n s : Nat) (k : Nat) (old layer : List Nat) : Prop where
  lt : ∀ x ∈ old ++ layer, x < n
  nd : (old ++ layer).Nodup
  b : ∀ x ∈ layer, rch f g s k x
  c : ∀ j x, j < k → rch f g s j x → x ∈ old
  d : ∀ x ∈ old, f x ∈ old ++ layer ∧ g x ∈ old ++ layer
  e : ∀ x ∈ old, acc x = false
  r : ∀ x, rch f g s k x → x ∈ old ++ layer
  l : layer = [] ∨ k + 1 ≤ (old ++ layer).length
theorem BF.start {n s : Nat} (hs : s < n) : BF acc f g n s 0 [] [s] :=
  ⟨fun x hx => by rw [List.nil_append, List.mem_singleton] at hx; omega, by simp, fun x hx => List.mem_singleton.mp hx, fun j x hj => absurd hj (Nat.not_lt_zero _), (fun _ h => nomatch h), (fun _ h => nomatch h), fun x hx => List.mem_singleton.mpr hx, .inr (by simp)⟩
theorem BF.found {n s k : Nat} {old layer : List Nat} (h : BF acc f g n s k old layer) (hx : ∃ x ∈ layer, acc x = true) : IsRank acc f g s (some k) := by
  obtain ⟨x, h1, h2⟩ := hx
  refine ⟨(canK_rch k s).mpr ⟨x, h.b x h1, h2⟩, fun j hj => Bool.eq_false_iff.mpr fun z => ?_⟩
  obtain ⟨y, h3, h4⟩ := (canK_rch j s).mp z
  rw [h.e y (h.c j y hj h3)] at h4
  cases h4
theorem BF.next {n s k : Nat} {old layer more : List Nat} (h : BF acc f g n s k old layer) (hno : ∀ x ∈ layer, acc x = false) (nd : (old ++ layer ++ more).Nodup) (lt : ∀ x ∈ more, x < n)
    (from_ : ∀ y ∈ more, ∃ x ∈ layer, y = f x ∨ y = g x) (all : ∀ x ∈ layer, f x ∈ old ++ layer ++ more ∧ g x ∈ old ++ layer ++ more) : BF acc f g n s (k + 1) (old ++ layer) more := by
  have sub : ∀ x, x ∈ old ++ layer → x ∈ old ++ layer ++ more := fun x hx => List.mem_append_left _ hx
  have d' : ∀ x ∈ old ++ layer, f x ∈ old ++ layer ++ more ∧ g x ∈ old ++ layer ++ more := fun x hx => by
    rcases List.mem_append.mp hx with hx | hx
    · exact ⟨sub _ (h.d x hx).1, sub _ (h.d x hx).2⟩
    · exact all x hx
  refine ⟨fun x hx => ?_, nd, fun y hy => ?_, fun j x hj hr => ?_, d', fun x hx => ?_, ?_, ?_⟩
  · rcases List.mem_append.mp hx with hx | hx
    · exact h.lt x hx
    · exact lt x hx
  · obtain ⟨x, hx, e⟩ := from_ y hy
    exact ⟨x, h.b x hx, e⟩
  · by_cases hjk : j < k
    · exact List.mem_append_left _ (h.c j x hjk hr)
    · have : j = k := by omega
      subst this
      exact h.r x hr
  · rcases List.mem_append.mp hx with hx | hx
    · exact h.e x hx
    · exact hno x hx
  · rintro y ⟨x, hx, e⟩
    have hx2 := d' x (h.r x hx)
    rcases e with e | e
    · rw [e]; exact hx2.1
    · rw [e]; exact hx2.2
  · cases hm : more with
    | nil => exact .inl rfl
    | cons y m =>
      right
      obtain ⟨x, hx, _⟩ := from_ y (by rw [hm]; exact List.mem_cons_self)
      rcases h.l with hl | hl
      · rw [hl] at hx; cases hx
      · rw [List.length_append, List.length_cons]
        omega
theorem BF.end_ {n s : Nat} {old layer : List Nat} (h : BF acc f g n s (n + 1) old layer) : IsRank acc f g s none := by
  have hl : layer = [] := by
    rcases h.l with hl | hl
    · exact hl
    · have := nodup_len h.nd h.lt
      omega
  subst hl
  have cl : ∀ k x, rch f g s k x → x ∈ old := by
    intro k
    induction k with
    | zero => intro x hx; exact h.c 0 x (Nat.succ_pos _) hx
    | succ k ih =>
      rintro y ⟨x, hx, e⟩
      have := h.d x (ih x hx)
      rw [List.append_nil] at this
      rcases e with e | e
      · rw [e]; exact this.1
      · rw [e]; exact this.2
  intro k
  refine Bool.eq_false_iff.mpr fun z => ?_
  obtain ⟨x, h1, h2⟩ := (canK_rch k s).mp z
  rw [h.e x (cl k x h1)] at h2
  cases h2
end
end Dw
namespace Dw
open PySem PySem.Spec PyProof.Rows L2 SX
def oV : Option Nat → V
  | none => .non
  | some k => nv k
theorem oV_flat (o : Option Nat) : flatV (oV o) = true := by cases o <;> rfl
theorem eqV_o (o : Option Nat) (k : Nat) : eqV (oV o) (nv k) = decide (o = some k) := by
  cases o with
  | none => rfl
  | some j =>
    show ((j : Int) == (k : Int)) = decide (some j = some k)
    rw [Bool.eq_iff_iff, beq_iff_eq, decide_eq_true_eq]
    constructor
    · intro h; rw [show j = k by omega]
    · intro h; rw [Option.some.inj h]
theorem inV_o (k : Nat) : ∀ L : List (Option Nat), inV (nv k) (L.map oV) = decide (some k ∈ L)
  | [] => by simp [inV]
  | o :: L => by
    have ih := inV_o k L
    unfold inV at ih ⊢
    rw [List.map_cons, List.any_cons, ih, eqV_o]
    by_cases h : o = some k
    · simp [h]
    · have : ¬ (some k = o) := fun e => h e.symm
      simp [h, this]
theorem flat_o (L : List (Option Nat)) : (L.map oV).all flatV = true := by
  rw [List.all_eq_true]
  intro v hv
  obtain ⟨o, _, rfl⟩ := List.mem_map.mp hv
  exact oV_flat o
theorem wt0 (t v : Nat) : wt 0 t v = 2 ^ t * v := by simp [wt]
theorem oset (n k : Nat) (o : Option Nat) (h : Nat → Option Nat) : ((List.range n).map fun s => oV (h s)).set k (oV o) = (List.range n).map fun s => oV (if s = k then o else h s) := by
  refine List.ext_getElem (by simp) fun i h1 h2 => ?_
  rw [List.getElem_set]
  simp only [List.getElem_map, List.getElem_range]
  by_cases e : k = i
  · rw [if_pos e, if_pos e.symm]
  · rw [if_neg e, if_neg fun z => e z.symm]
theorem inV_n (k : Nat) : ∀ L : List Nat, inV (nv k) (L.map nv) = decide (k ∈ L)
  | [] => by simp [inV]
  | o :: L => by
    have ih := inV_n k L
    unfold inV at ih ⊢
    rw [List.map_cons, List.any_cons, ih]
    show (((o : Int) == (k : Int)) || _) = _
    by_cases h : o = k
    · subst h; simp
    · have h1 : ((o : Int) == (k : Int)) = false := by
        rw [beq_eq_false_iff_ne]
        omega
      have : ¬ (k = o) := fun e => h e.symm
      simp [h1, this]
theorem flat_n (L : List Nat) : (L.map nv).all flatV = true := by
  rw [List.all_eq_true]
  intro v hv
  obtain ⟨o, _, rfl⟩ := List.mem_map.mp hv
  rfl
def keepA (A : Nat → Bool) : V → Bool
  | .int i => A i.toNat
  | _ => false
theorem keepA_map (A : Nat → Bool) (L : List Nat) : (L.map nv).filter (keepA A) = (L.filter A).map nv := by
  rw [List.filter_map]
  rfl
/-- a comprehension with a test over a list -/
theorem lc_filtN {K : PySem.W.Frag} {a : Addr} {xs : List V} {g : TG} {tt : TT} {te : TE} {vs : List Nat} {σ : L2.St} {H1 : Hp} {D : Addr} {Qd : Hp → Prop} (keep : V → Bool) (hx : SqL K H1 a xs) (hn : xs.length ≤ 10000) (hD : H1 D = none)
    (hs : ∀ (i : Nat) (x : V) (H : Hp) (Y : VK) (Nn : Hp → Prop), xs[i]? = some x → Same H1 H → (keep x = true → ∀ H', Same H H' → Y x H') → (keep x = false → ∀ H', Same H H' → Nn H') → g x (wipe σ vs) H fun σ2 H2 => wipe σ2 vs = wipe σ vs ∧ tt σ2 H2 fun b H3 => if b = true then te σ2 H3 Y else Nn H3)
    (hd : ∀ H, Same H1 H → H D = some (.lst (xs.filter keep)) → Qd H) : LcJ (Itl K a) g tt te vs D σ H1 Qd := by
  refine lc_listN (xs := xs) (fun i H => Same H1 H ∧ H D = some (.lst ((xs.take i).filter keep))) ⟨same_upd hD, upd_same⟩ (fun i H _ p => p.1.seq hx) (fun i x H N hi p hN => ?_) (fun H p => hd H p.1 (by rw [p.2, List.take_length]))
  obtain ⟨s1, hDl⟩ := p
  refine hs i x H (fun y H4 => ∃ acc, H4 D = some (.lst acc) ∧ acc.length < sizeLine ∧ N (upd H4 D (.lst (acc ++ [y])))) N hi s1 (fun hk H2 s2 => ⟨_, s2 _ _ hDl, ?_, hN _ ⟨Dw.Same.new (s1.trans s2) hD, ?_⟩⟩) (fun hk H2 s2 => hN _ ⟨s1.trans s2, ?_⟩)
  · have := List.length_filter_le keep (xs.take i)
    rw [List.length_take] at this
    exact smallt (by omega)
  · rw [upd_same, List.take_add_one, hi, List.filter_append]
    simp [hk]
  · rw [s2 _ _ hDl, List.take_add_one, hi, List.filter_append]
    simp [hk]
def oD : Option Nat → PyData
  | none => .none
  | some k => .int (k : Int)
theorem os_lay : ∀ L : List (Option Nat), PyData.canLayAll0 (L.map oD) = true
  | [] => by simp [PyData.canLayAll0]
  | none :: r => by simp [PyData.canLayAll0, oD, PyData.canLay0, os_lay r]
  | some n :: r => by simp [PyData.canLayAll0, oD, PyData.canLay0, os_lay r]
theorem os_depth : ∀ L : List (Option Nat), PyData.depthAll (L.map oD) = 0
  | [] => by simp [PyData.depthAll]
  | none :: r => by simp [PyData.depthAll, oD, PyData.depth, os_depth r]
  | some n :: r => by simp [PyData.depthAll, oD, PyData.depth, os_depth r]
theorem os_dp {K : PySem.W.Frag} {H : Hp} : ∀ L : List (Option Nat), DpAll K H (L.map oV) (L.map oD)
  | [] => .nil
  | none :: r => .cons .non (os_dp r)
  | some n :: r => .cons (.int _) (os_dp r)
theorem os_shaped (L : List (Option Nat)) : SeqAt.shaped (.list (L.map oD)) = true := by
  simp [SeqAt.shaped, PyData.canLay0, PyData.depth, os_lay L, os_depth]
theorem oV_inj {a b : Option Nat} (h : oV a = oV b) : a = b := by
  cases a <;> cases b
  · rfl
  · cases h
  · cases h
  · have := V.int.inj h
    congr 1
    omega
end Dw
namespace Dw
open PySem PySem.Spec PyProof.Rows L2 SX NdefX LamX
/-! defs of the module that take a function made within another def and call it -/
/-- what the caller shows of the handed function's cells -/
structure CbG (cl : List (Str × Addr)) (fr : List Str) (ws : List (Option V)) (outer : List Env) (h : Heap) (H : Hp) : Prop where
  cells : CellsAt cl fr ws h H
  nf : ∀ y c, cl.lookup y = some c → c ∉ frs outer
/-- a def's promise where G stands at the call -/
structure FnG (P : Program) (w : World) (K : PySem.W.Frag) (mg : Str → Option Value) (base : Heap) (CX : CXT) (k : Nat) (f : Addr) (fd : FuncData) (ps : List Str) (G : List Env → Heap → Hp → Prop) (sp : Sp) : Prop where
  len : ∀ vs H Q E, sp vs H Q E → vs.length = ps.length
  go : ∀ (A : Around) (fs : List Env) (st : Shared) (H : Hp) (as : Args) (us : List Value) (vs : List V) (Q : VK) (E : XK), Room k A → Env0 P w K mg base A fs st H → G fs st.heap H → BindsTo st fd as (ps.zip us) → Vals vs us → sp vs H Q E →
    codeAny (model P w) A (.call (.ref f) as) (CR CX fs P w H st Q E) st
theorem fnG_of {CX : CXT} {P : Program} {w : World} {K : PySem.W.Frag} {mg : Str → Option Value} {base : Heap} {k : Nat} {f : Addr} {nm ql : Str} {pr : Arguments} {bd : List Stmt} {sc : Scope} {d1 d2 d3 d4 cdv d5 d6 : Value} {o1 o2 : Option Addr} {sl : Array (Option Value)} {N ps : List Str} {G : List Env → Heap → Hp → Prop} {sp : Sp}
    (lk : K.lookup f = some ⟨d6, o2, .func (PySem.W.fnOf nm ql pr bd sc d1 d2 d3 d4 o1 cdv d5), sl⟩) (hcd : PySem.W.codeIn K cdv ql = true) (S : FnScope N ps sc) (len : ∀ vs H Q E, sp vs H Q E → vs.length = ps.length)
    (body : ∀ (A : Around) (fs : List Env) (st : Shared) (H : Hp) (vs : List V) (Q : VK) (E : XK), Room k (A.deeper (envOfC ql sc st.heap.objs.size f cdv)) → G fs st.heap H → sp vs H Q E → ∃ t, PSs (cxOf CX P w K mg base N ql sc f cdv A fs st H E) bd t ∧ t { nx := fun _ H' => Q .non H', rt := Q } (start N vs) H) :
    FnG P w K mg base CX (k + 1) f (PySem.W.fnOf nm ql pr bd sc d1 d2 d3 d4 o1 cdv d5) ps G sp := by
  constructor
  · exact len
  intro A fs st H as us vs Q E hr e0 g hb r hsp
  have kin0 := e0.mod.kin.keeps fun b o e => (e0.bs b o e).1
  have nol := e0.mod.nolimit.keeps fun b o e => (e0.bs b o e).1
  have kinds : ∀ y ∈ ps.zip us, sc.names.lookup y.1 = some .local ∨ (sc.names.lookup y.1 = some .cell ∧ ((cellsFrom (st.heap.objs.size + 1) sc.names []).lookup y.1).isSome = true) := by
    rintro ⟨n, v⟩ hy
    exact (S.par n (List.of_mem_zip hy).1).imp id fun q => ⟨q, PySem.W.cellsFrom_some _ _ _ (.inl q)⟩
  refine codeAny_call_function hr.depth (kin0 _ _ lk) rfl S.co S.gen rfl (PySem.W.codeRec_of kin0 hcd) (hb _ _ _ _ (wpAny_newFunctionEnv_cells S.kind kinds fun env he s1 x => ?_))
  subst he
  obtain ⟨t, ht, hq⟩ := body A fs st H vs Q E (hr.deeper _) g hsp
  have I := inv_start (CX := CX) (E := E) (cd := cdv) S hr.hd e0 (len _ _ _ _ hsp) r x
  refine ⟨nol.keeps x.toInCall.keep, codeAny_func (wpAny_mono (ht.run [] s1 (start N vs) H _ I hq) (fun fl s' hs => ?_) fun _ _ z => z)⟩
  match fl, hs with
  | .ret _, ⟨_, _, _, J, rv, q⟩ => exact ⟨_, _, J.os, J.bare, J.base, J.hok, rv, q⟩
  | .next, ⟨_, _, J, q⟩ => exact ⟨V.non, _, J.os, J.bare, J.base, J.hok, rfl, q⟩
  | .brk, ⟨_, _, _, q⟩ => exact False.elim q
  | .cont, ⟨_, _, _, q⟩ => exact False.elim q
/-- such a def under its name -/
structure CalG (P : Program) (w : World) (K : PySem.W.Frag) (mg : Str → Option Value) (base : Heap) (k : Nat) (x : Str) (G : List Env → Heap → Hp → Prop) (sp : Sp) : Prop where
  ex : ∃ (f : Addr) (fd : FuncData) (ps : List Str), FnG P w K mg base (L2.CX P w) k f fd ps G sp ∧ mg x = some (.ref f) ∧ PySem.W.keepIn K (.ref f) = true ∧ Binds K fd ps []
section
variable {P : Program} {w : World} {K : PySem.W.Frag} {mg : Str → Option Value} {base : Heap}
theorem calG0 {x : Str} {st : Stmt} {f : Addr} {fd : FuncData} {N ps : List Str} {k : Nat} {G : List Env → Heap → Hp → Prop} {sp : Sp} (F : C8.Def K mg x st f fd) (b : Binds K fd ps []) (S : FnScope N ps (C8.fnScope st)) (len : ∀ vs H Q E, sp vs H Q E → vs.length = ps.length)
    (body : ∀ (cdv : Value) (A : Around) (outer : List Env) (s : Shared) (H : Hp) (vs : List V) (Q : VK) (E : XK), Room k (A.deeper (envOfC x (C8.fnScope st) s.heap.objs.size f cdv)) → G outer s.heap H → sp vs H Q E →
      ∃ t, PSs (cxOf (L2.CX P w) P w K mg base N x (C8.fnScope st) f cdv A outer s H E) (C8.fnBody st) t ∧ t { nx := fun _ H' => Q .non H', rt := Q } (start N vs) H) : CalG P w K mg base (k + 1) x G sp := by
  obtain ⟨oc, od, dV, kV, doc, pm, an, cdv, ct, osl, rfl, lk, hcd⟩ := F.fn.ex
  exact ⟨_, _, ps, fnG_of lk hcd S len fun A fs s H vs Q E hr g h => body cdv A fs s H vs Q E hr g h, F.mgf, F.kp, b⟩
end
/-- the cells of the def that makes the function are no frames that run -/
theorem cbG_of {X : Cx} {pins : List (Addr × Obj)} {σ : L2.St} {H : Hp} {s : Shared} {cl : List (Str × Addr)} {fr : List Str} {js : List Nat} (I : Inv X pins σ H s) (c : Caps X cl fr js) (hfn : ∀ y, X.fn y = true) : CbG cl fr (js.map (slotAt σ)) X.stack s.heap H := by
  refine ⟨cells_of I c, fun y a e hb => ?_⟩
  have ea := c.sub y a e
  rcases List.mem_cons.mp (I.stkSub a hb) with z | z
  · exact I.cne y a ea z
  · obtain ⟨_, o, ho, _⟩ := I.ok.funs.mem z
    exact absurd (Heap.lt_size ho) (Nat.not_lt.mpr (I.ok.cab y a (hfn y) ea))
/-- its call; js: the slots of the names that the handed function captured -/
def tCallG (js : List Nat) (sp : List (Option V) → Sp) (E : XK) (t : TA) : TE := fun σ H Q => t σ H fun vs H1 => sp (js.map (slotAt σ)) vs H1 Q E
section
variable {X : Cx} {k j : Nat} {x : Str} {p pos : Pos} {e : Expr} {es : List Expr} {t : TA} {E : XK}
theorem pe_cG {cl : List (Str × Addr)} {fr : List Str} {js : List Nat} {sp : List (Option V) → Sp} (c : ∀ ws, CalG X.prog X.w X.K X.mg X.base k x (CbG cl fr ws) (sp ws)) (cp : X.Ok → Caps X cl fr js) (hfn : ∀ y, X.fn y = true) (hr : Room j X.A) (hk : k ≤ j) (hx : Passes (L2.CX X.prog X.w) X E) (hg : Gl X x) (ha : PA X (e :: es) t)
    (hdb : (x == ("__debug__" : Str)) = false := by decide) (he : starEach (e :: es) X.env = (false, eval e X.env) :: starEach es X.env := by rfl) (hpl : (backTo pos (starEach es X.env)).any (·.1) = false := by rfl) :
    PE X (.Call (.Name x p) (e :: es) [] pos) (tCallG js sp E t) := by
  refine ⟨fun pins s σ H Q I h => ?_⟩
  obtain ⟨f, fd, ps, F, hm, kp, b⟩ := (c (js.map (slotAt σ))).ex
  refine wpAny_Call_Name_kw (ld_glob I hg hm (PySem.W.callWith_K (h₀ := X.base) I.ok.mod.kin kp (thn (ha.run pos pins s σ H _ I h) fun us s1 ⟨vs, H1, I1, r, q⟩ => ⟨I1.kIn, ?_⟩) he hpl) hdb)
  have hl : (us ++ []).length = ps.length := by rw [List.append_nil, ← r.length]; exact F.len _ _ _ _ q
  have bt := b s1 us I1.kIn hl
  rw [List.append_nil] at bt
  refine wpAny_call (codeAny_mono (F.go X.A X.stack s1 H1 ⟨us, []⟩ us vs Q E (hr.mono hk) I1.env0 (cbG_of I1 (cp I1.ok) hfn) bt r q) fun rs s' hq => ?_)
  match rs, hq with
  | .error e, hq => exact hx pins σ H1 s1 e s' I1 hq
  | .ok (.ret u), hq => exact I1.after hq
  | .ok .next, hq => exact False.elim hq
  | .ok .brk, hq => exact False.elim hq
  | .ok .cont, hq => exact False.elim hq
/-- in that def: the call of the handed function -/
def tCb (F : NF) (i : Nat) (sp : Sp) (E : XK) (t : TA) : TE := fun σ H Q => ∃ f, σ[i]? = some (some (.ref f)) ∧ H f = some (FnO f F) ∧ t σ H fun vs H1 => H1 f = some (FnO f F) ∧ H1 F.c = some (CodeO F.c F.qual) ∧ sp vs H1 Q E
theorem pe_cb {CX : CXT} {F : NF} {ps fr : List Str} {ws : List (Option V)} {sp : List (Option V) → Sp} {i : Nat} (Fn : ∀ f, NOk X.prog X.w X.K X.mg X.base CX k f F ps fr sp) (g : CbG F.cl fr ws X.outer X.s_0.heap X.H_0) (hex : X.ex = []) (hr : Room j X.A) (hk : k ≤ j) (hx : Passes CX X E) (hN : X.N[i]? = some x) (hv : Vis X.env.scope x) (ha : PA X (e :: es) t)
    (hd : (x == ("__debug__" : Str)) = false := by decide) (hcd : (x == ("__classdict__" : Str)) = false := by decide)
    (he : starEach (e :: es) X.env = (false, eval e X.env) :: starEach es X.env := by rfl) (hpl : (backTo pos (starEach es X.env)).any (·.1) = false := by rfl) : PE X (.Call (.Name x p) (e :: es) [] pos) (tCb F i (sp ws) E t) := by
  refine ⟨fun pins s σ H Q I ⟨f, hs, hf, ht⟩ => wpAny_Call_Name_kw (thn ((pe_var (pos := p) hN hv hd hcd).run pins s σ H (fun v H1 => v = .ref f ∧ H1 = H) I ⟨.ref f, hs, rfl, rfl⟩) fun u s1 ⟨v, H1, I1, r1, ev, eH⟩ => ?_)⟩
  subst ev eH
  obtain rfl : u = Value.ref f := r1
  refine PySem.W.callWith_F (first := []) (fnAt_of I1 hf) (thn (ha.run pos pins s1 σ H1 _ I1 ht) fun us s2 ⟨vs, H2, I2, r, h1, h2, q⟩ => ⟨fnAt_of I2 h1, ?_⟩) he hpl
  have C := g.cells.later g.nf (fun _ _ _ => by rw [hex]; exact List.not_mem_nil) I2
  refine wpAny_call (codeAny_mono ((Fn f).run X.A X.stack s2 H2 us vs ws Q E (hr.mono hk) I2.env0 h1 h2 C r q) fun rs s' hq => ?_)
  match rs, hq with
  | .error e, hq => exact hx pins σ H2 s2 e s' I2 hq
  | .ok (.ret u), hq => exact I2.after hq
  | .ok .next, hq => exact False.elim hq
  | .ok .brk, hq => exact False.elim hq
  | .ok .cont, hq => exact False.elim hq
end
/-- all but tables of code objects stays -/
structure ExtT (H H' : Hp) : Prop where
  keep : ExtN H H'
  free : ∀ b, H' b = none → H b = none
theorem ExtT.of {H H' : Hp} (s : Same H H') : ExtT H H' := ⟨fun b o e _ => s b o e, fun b e => s.free e⟩
theorem ExtT.trans {H H1 H2 : Hp} (a : ExtT H H1) (b : ExtT H1 H2) : ExtT H H2 := ⟨fun x o e n => b.keep x o (a.keep x o e n) n, fun x e => a.free x (b.free x e)⟩
theorem ExtT.lst {H H' : Hp} (s : ExtT H H') {a : Addr} {xs : List V} (e : H a = some (.lst xs)) : H' a = some (.lst xs) := s.keep a _ e (fun _ h => by cases h)
theorem ExtT.tup {H H' : Hp} (s : ExtT H H') {a : Addr} {xs : List V} (e : H a = some (.tup xs)) : H' a = some (.tup xs) := s.keep a _ e (fun _ h => by cases h)
end Dw
namespace Dw
open PySem PySem.Spec PyProof.Rows L2 SX NdefX LamX
section
variable {P : Program} {w : World} {K : PySem.W.Frag} {mg : Str → Option Value} {base : Heap}
/-- a def whose code object's address is known -/
theorem calXK {x : Str} {st : Stmt} {f c : Addr} {oc dV kV doc pm ct : Value} {od an : Option Addr} {osl : Array (Option Value)} {N ps : List Str} {k : Nat} {sp : Sp} (lk : K.lookup f = some ⟨oc, od, .func (PySem.W.fnOf x x (C8.fnArgs st) (C8.fnBody st) (C8.fnScope st) dV kV doc pm an (.ref c) ct), osl⟩) (hcd : PySem.W.codeIn K (.ref c) x = true) (hm : mg x = some (.ref f)) (kp : PySem.W.keepIn K (.ref f) = true)
    (b : Binds K (PySem.W.fnOf x x (C8.fnArgs st) (C8.fnBody st) (C8.fnScope st) dV kV doc pm an (.ref c) ct) ps []) (S : FnScope N ps (C8.fnScope st)) (len : ∀ vs H Q E, sp vs H Q E → vs.length = ps.length)
    (body : ∀ (A : Around) (outer : List Env) (s : Shared) (H : Hp) (vs : List V) (Q : VK) (E : XK), Room k (A.deeper (envOfC x (C8.fnScope st) s.heap.objs.size f (.ref c))) → sp vs H Q E →
      ∃ t, PSs (cxOf (L2.CX P w) P w K mg base N x (C8.fnScope st) f (.ref c) A outer s H E) (C8.fnBody st) t ∧ t { nx := fun _ H' => Q .non H', rt := Q } (start N vs) H) : CalX P w K mg base (k + 1) x sp :=
  ⟨f, _, ps, fn_of lk hcd S len fun A outer s H vs Q E hr h => body A outer s H vs Q E hr h, hm, kp, b⟩
end
/-- whether a text is a key of a written table -/
def KAt (K : PySem.W.Frag) (w : World) (a : Addr) (z : Str) (b : Bool) : Prop := ∃ es n r, K.lookup a = some ⟨.type "dict", none, .dict es n, #[]⟩ ∧ PySem.W.KeysLit w.params es.toList ∧ (a == sysModules) = false ∧ PySem.W.nsIn K a z = some r ∧ r.isSome = b
def rKNo (K : PySem.W.Frag) (w : World) : R2 := fun x y H Q => ∃ (a : Addr) (z : Str) (b : Bool), y = .ref a ∧ x = .str z ∧ KAt K w a z b ∧ Q (.bl (!b)) H
theorem op_kNo {X : Cx} : OpR X (compareOp .NotIn) (rKNo X.K X.w) := by
  intro pins s σ H x y v u Q I rx ry h
  obtain ⟨a, z, b, rfl, rfl, ⟨es, n, r, hl, hk, low, h1, h2⟩, q⟩ := h
  obtain ⟨t, rfl⟩ := (show ∃ t, v = Value.str z t from rx)
  obtain rfl : u = Value.ref a := ry
  refine wpAny_notIn_of (strKind_is X.prog X.w z t) low (PySem.W.mapOf_K (prog := X.prog) (w := X.w) I.kIn hl hk) ?_
  rw [PySem.W.find_K hl h1, h2]
  exact ⟨.bl (!b), H, I.tok _, rfl, q⟩
end Dw
namespace Dw
open PySem PySem.Spec PyProof.Rows L2 SX
/-! a display with one pair, its key a tuple; and dicts that number a list of tuples -/
def tDisp1T (tk tv : TE) : TE := fun σ H Q => ∀ p, H p = none → tk σ (upd H p (.dT [])) fun x H1 => tv σ H1 fun y H2 => H2 p = some (.dT []) ∧ ∃ (b : Addr) (ks : List L2.Key), x = .ref b ∧ H2 b = some (.tup (ks.map kV)) ∧ Q (.ref p) (upd H2 p (.dT [(ks, y)]))
theorem pe_disp1T {X : Cx} {k v : Expr} {pos : Pos} {tk tv : TE} (hu : X.A.units + 1 < cLine) (hk : PE X k tk) (hv : PE X v tv) : PE X (.Dict [some k] [v] pos) (tDisp1T tk tv) := by
  refine ⟨fun pins s σ H Q I q => ?_⟩
  have I1 := I.laid (t' := s.toks) (fun _ _ q => Heap.get?_push_of_some _ q) (Nat.le_refl _) (dt_empty (H := upd H s.heap.objs.size (.dT [])) s.heap I.big)
  rw [arm_eval_Dict, zip_pairTrees [some k] [v] X.env pos rfl rfl, dictDisplay_pairs (pairTrees [some k] [v] X.env pos) (List.cons_ne_nil _ _) (by show (1 : Nat) < 17; decide)]
  refine wpAny_bind (wpAny_standAt (wpAny_bind (wpAny_subDictH (knd := tupleKind (mixKind X.prog X.w)) (Q := fun d s' => wpAny (model X.prog X.w) X.A (pure (Value.ref d)) (EP X pins σ Q) X.xe s') (show X.A.units < cLine by omega) (by show (1 : Nat) ≤ 15; decide) ?_)))
  refine pairTrees_cons_walk (thn (hk.run pins _ σ _ _ I1 (q _ (I.hok.fresh (Nat.le_refl _)))) fun u s1 ⟨x, H1, I2, rx, q1⟩ => thn (hv.run pins s1 σ H1 _ I2 q1) fun w2 s2 ⟨y, H2, I3, ry, e, b, ks, ex, eb, q2⟩ => pairTrees_nil_walk ?_)
  subst ex
  cases (show u = Value.ref b from rx)
  obtain ⟨_, hd, xs, rel, dd⟩ := dt_of I3.hok e
  cases rel
  refine ⟨[(ks, b, w2)], ⟨rfl, rfl, key_of I3.hok eb, trivial⟩, dd, fun h' tk dd' hs => wpAny_pure ⟨.ref s.heap.objs.size, _, ?_, rfl, q2⟩⟩
  obtain ⟨o, es, ep, h1, h2, h3, h4, _, h5⟩ := dd'
  refine d_write I3 (by rw [e]; exact True.intro) hs ⟨o, h1⟩ ⟨by rw [sizeLine_eq]; exact (by decide : (1 : Nat) ≤ 16777216), hd, [(ks, b, w2)], .cons ⟨rfl, ?_, ry⟩ .nil, o, es, ep, h1, h2, h3, h4, h5⟩
  show upd H2 s.heap.objs.size _ b = _
  rw [upd_ne (ne_of eb e (fun z => nomatch z))]
  exact eb
end Dw
namespace Dw
open PySem PySem.Spec PyProof.Rows L2 SX
abbrev kyT (l : List Int) : List L2.Key := l.map Sum.inl
theorem kyT_inj {a b : List Int} (e : kyT a = kyT b) : a = b := by
  exact (List.map_inj_right fun _ _ h => Sum.inl.inj h).mp e
theorem kyT_V (l : List Int) : (kyT l).map kV = l.map V.int := by
  unfold kyT
  rw [List.map_map]
  rfl
/-- the labels, numbered from k on -/
def numT : Nat → List (List Int) → List (List L2.Key × V)
  | _, [] => []
  | k, l :: ls => (kyT l, nv k) :: numT (k + 1) ls
theorem numT_len : ∀ (k : Nat) (ls : List (List Int)), (numT k ls).length = ls.length
  | _, [] => rfl
  | k, l :: ls => by
    unfold numT
    rw [List.length_cons, List.length_cons, numT_len (k + 1) ls]
theorem numT_snoc : ∀ (k : Nat) (ls : List (List Int)) (l : List Int), numT k (ls ++ [l]) = numT k ls ++ [(kyT l, nv (k + ls.length))]
  | k, [], l => rfl
  | k, x :: ls, l => by
    rw [List.cons_append]
    unfold numT
    rw [numT_snoc (k + 1) ls l, List.cons_append, List.length_cons, show k + 1 + ls.length = k + (ls.length + 1) by omega]
theorem numT_no : ∀ (k : Nat) (ls : List (List Int)) (l : List Int), l ∉ ls → valV (numT k ls) (kyT l) = none
  | _, [], _, _ => rfl
  | k, x :: ls, l, h => by
    unfold numT
    rw [valV_neg (fun e => h (by rw [kyT_inj e]; exact List.mem_cons_self))]
    exact numT_no (k + 1) ls l fun z => h (List.mem_cons_of_mem _ z)
theorem numT_at : ∀ (k : Nat) (ls : List (List Int)) (l : List Int), l ∈ ls → ∃ i, ls[i]? = some l ∧ valV (numT k ls) (kyT l) = some (nv (k + i))
  | _, [], _, h => nomatch h
  | k, x :: ls, l, h => by
    unfold numT
    by_cases e : x = l
    · exact ⟨0, by rw [e]; rfl, by rw [valV_pos (by rw [e])]; rfl⟩
    · obtain ⟨i, h1, h2⟩ := numT_at (k + 1) ls l ((List.mem_cons.mp h).resolve_left fun z => e z.symm)
      exact ⟨i + 1, h1, by rw [valV_neg (fun z => e (kyT_inj z)), h2, show k + 1 + i = k + (i + 1) by omega]⟩
theorem numT_in {H : Hp} {d b : Addr} {ls : List (List Int)} {l : List Int} (e : H d = some (.dT (numT 0 ls))) (eb : H b = some (.tup (l.map V.int))) : DGet H d (.ref b) (valV (numT 0 ls) (kyT l)) := DGet.t e (by rw [kyT_V]; exact eb)
theorem numT_put {H : Hp} {d b : Addr} {ls : List (List Int)} {l : List Int} (e : H d = some (.dT (numT 0 ls))) (eb : H b = some (.tup (l.map V.int))) (n : l ∉ ls) (hl : ls.length < 1000) : DPut H d (.ref b) (nv ls.length) (upd H d (.dT (numT 0 (ls ++ [l])))) := by
  have := DPut.t (v := nv ls.length) e (b := b) (k := kyT l) (by rw [kyT_V]; exact eb) (by rw [numT_len, sizeLine_eq]; omega)
  rwa [putK_new _ (numT_no 0 ls l n), show numT 0 ls ++ [(kyT l, nv ls.length)] = numT 0 (ls ++ [l]) by rw [numT_snoc, Nat.zero_add]] at this
end Dw
namespace Dw
open PySem PySem.Spec PyProof.Rows L2 SX
theorem hu1 {A : Around} {k : Nat} (hr : Room k A) : A.units + 1 < cLine := by have := hr.units; omega
end Dw
namespace Dw
/-! a search breadth first, as relations on the lists that stand: the labels found, the rows of their numbers -/
/-- the numbers of a row in the order in which they are found: c are known ahead of it -/
def scanR : Nat → List Nat → Option Nat
  | c, [] => some c
  | c, x :: r => if x < c then scanR c r else if x = c then scanR (c + 1) r else none
def scanT : Nat → List (List Nat) → Option Nat
  | c, [] => some c
  | c, r :: rs => (scanR c r).bind fun d => scanT d rs
theorem scanR_snoc : ∀ (c : Nat) (r : List Nat) (x : Nat), scanR c (r ++ [x]) = (scanR c r).bind fun d => scanR d [x]
  | _, [], _ => rfl
  | c, y :: r, x => by
    rw [List.cons_append]
    unfold scanR
    split
    · exact scanR_snoc c r x
    · split
      · exact scanR_snoc (c + 1) r x
      · rfl
theorem scanT_snoc : ∀ (c : Nat) (rs : List (List Nat)) (r : List Nat), scanT c (rs ++ [r]) = (scanT c rs).bind fun d => scanR d r
  | c, [], r => by
    show (scanR c r).bind (fun d => scanT d []) = scanR c r
    cases scanR c r <;> rfl
  | c, y :: rs, r => by
    rw [List.cons_append]
    unfold scanT
    cases h : scanR c y with
    | none => rfl
    | some d => exact scanT_snoc d rs r
section
variable {L : Type} [DecidableEq L] {g : L → Nat → L} {U : List L}
/-- the place of a label -/
def ixL1 (y : L) : List L → Nat
  | [] => 0
  | x :: f => if x = y then 0 else ixL1 y f + 1
theorem ix_at {y : L} : ∀ {f : List L} {x : Nat}, f.Nodup → f[x]? = some y → ixL1 y f = x
  | z :: f, 0, _, h => by
    cases h
    exact if_pos rfl
  | z :: f, x + 1, nd, h => by
    have h' : f[x]? = some y := h
    have n : z ≠ y := fun e => (List.nodup_cons.mp nd).1 (e ▸ List.mem_of_getElem? h')
    show (if z = y then 0 else ixL1 y f + 1) = x + 1
    rw [if_neg n, ix_at (List.nodup_cons.mp nd).2 h']
def stepL (y : L) (p : List L × List Nat) : List L × List Nat := if y ∈ p.1 then (p.1, p.2 ++ [ixL1 y p.1]) else (p.1 ++ [y], p.2 ++ [p.1.length])
def rowF (h : Nat → L) (f0 : List L) : Nat → List L × List Nat
  | 0 => (f0, [])
  | j + 1 => stepL (h j) (rowF h f0 j)
def bfsN (g : L → Nat → L) (n : Nat) (l0 : L) : Nat → List L × List (List Nat)
  | 0 => ([l0], [])
  | k + 1 => let p := bfsN g n l0 k
    match p.1[k]? with
    | some l => ((rowF (g l) p.1 n).1, p.2 ++ [(rowF (g l) p.1 n).2])
    | none => p
theorem nodup_le {L : Type} : ∀ {a U : List L}, a.Nodup → (∀ y ∈ a, y ∈ U) → a.length ≤ U.length
  | [], _, _, _ => Nat.zero_le _
  | x :: a, U, nd, h => by
    obtain ⟨s, t, rfl⟩ := List.append_of_mem (h x List.mem_cons_self)
    have ih := nodup_le (a := a) (U := s ++ t) (List.nodup_cons.mp nd).2 fun y hy => by
      rcases List.mem_append.mp (h y (List.mem_cons_of_mem _ hy)) with z | z
      · exact List.mem_append_left _ z
      · rcases List.mem_cons.mp z with z | z
        · exact absurd (z ▸ hy) (List.nodup_cons.mp nd).1
        · exact List.mem_append_right _ z
    rw [List.length_append] at ih
    rw [List.length_cons, List.length_append, List.length_cons]
    omega
theorem snoc_nodup {L : Type} {a : List L} {x : L} (nd : a.Nodup) (h : x ∉ a) : (a ++ [x]).Nodup := by
  rw [List.nodup_append]
  exact ⟨nd, List.pairwise_singleton _ _, fun y hy z hz => by rw [List.mem_singleton.mp hz]; exact fun e => h (e ▸ hy)⟩
/-- within a row: the letters below j are done -/
structure RowI (g : L → Nat → L) (U f0 : List L) (l : L) (j : Nat) (f : List L) (row : List Nat) : Prop where
  nd : f.Nodup
  pre : ∃ m, f = f0 ++ m
  len : row.length = j
  at_ : ∀ i x, row[i]? = some x → f[x]? = some (g l i)
  scan : scanR f0.length row = some f.length
  sub : ∀ y ∈ f, y ∈ U
  fn : rowF (g l) f0 j = (f, row)
theorem RowI.zero {f0 : List L} {l : L} (nd : f0.Nodup) (sub : ∀ y ∈ f0, y ∈ U) : RowI g U f0 l 0 f0 [] :=
  ⟨nd, ⟨[], (List.append_nil _).symm⟩, rfl, (fun _ _ h => nomatch h), rfl, sub, rfl⟩
theorem row_at {L : Type} {row : List Nat} {f : List L} {g : Nat → L} {x j : Nat} (hl : row.length = j) (h : ∀ i y, row[i]? = some y → f[y]? = some (g i)) (hx : f[x]? = some (g j)) : ∀ i y, (row ++ [x])[i]? = some y → f[y]? = some (g i) := by
  intro i y e
  by_cases hi : i < row.length
  · rw [List.getElem?_append_left hi] at e
    exact h i y e
  · rw [List.getElem?_append_right (by omega)] at e
    cases hk : i - row.length with
    | zero =>
      rw [hk] at e
      cases e
      rwa [show i = j by omega]
    | succ k =>
      rw [hk] at e
      cases e
theorem RowI.old {f0 f : List L} {l : L} {j x : Nat} {row : List Nat} (h : RowI g U f0 l j f row) (e : f[x]? = some (g l j)) : RowI g U f0 l (j + 1) f (row ++ [x]) := by
  refine ⟨h.nd, h.pre, by rw [List.length_append, h.len]; rfl, row_at h.len h.at_ e, ?_, h.sub, ?_⟩
  · rw [scanR_snoc, h.scan]
    show (if x < f.length then scanR f.length [] else _) = _
    rw [if_pos (List.getElem?_eq_some_iff.mp e).1]
    rfl
  · show stepL (g l j) (rowF (g l) f0 j) = _
    rw [h.fn]
    unfold stepL
    rw [if_pos (List.mem_of_getElem? e), ix_at h.nd e]
theorem RowI.new {f0 f : List L} {l : L} {j : Nat} {row : List Nat} (h : RowI g U f0 l j f row) (n : g l j ∉ f) (u : g l j ∈ U) : RowI g U f0 l (j + 1) (f ++ [g l j]) (row ++ [f.length]) := by
  obtain ⟨m, hm⟩ := h.pre
  refine ⟨snoc_nodup h.nd n, ⟨m ++ [g l j], by rw [hm, List.append_assoc]⟩, by rw [List.length_append, h.len]; rfl, row_at h.len (fun i y e => ?_) ?_, ?_, fun y hy => ?_, by show stepL (g l j) (rowF (g l) f0 j) = _; rw [h.fn]; exact if_neg n⟩
  · have := h.at_ i y e
    rw [List.getElem?_append_left (List.getElem?_eq_some_iff.mp this).1]
    exact this
  · rw [List.getElem?_append_right (Nat.le_refl _), Nat.sub_self]
    rfl
  · rw [scanR_snoc, h.scan]
    show (if f.length < f.length then _ else if f.length = f.length then scanR (f.length + 1) [] else none) = _
    rw [if_neg (Nat.lt_irrefl _), if_pos rfl, List.length_append]
    rfl
  · rcases List.mem_append.mp hy with z | z
    · exact h.sub y z
    · rw [List.mem_singleton.mp z]; exact u
/-- the whole search -/
structure BfsI (g : L → Nat → L) (U : List L) (n : Nat) (l0 : L) (f : List L) (T : List (List Nat)) : Prop where
  nd : f.Nodup
  hd : f[0]? = some l0
  le : T.length ≤ f.length
  rows : ∀ (i : Nat) (r : List Nat), T[i]? = some r → r.length = n ∧ ∃ l, f[i]? = some l ∧ ∀ j x, r[j]? = some x → f[x]? = some (g l j)
  scan : scanT 1 T = some f.length
  order : ∀ k, k < T.length → ∃ c, scanT 1 (T.take k) = some c ∧ k < c
  sub : ∀ y ∈ f, y ∈ U
  fn : bfsN g n l0 T.length = (f, T)
theorem BfsI.zero {n : Nat} {l0 : L} (u : l0 ∈ U) : BfsI g U n l0 [l0] [] :=
  ⟨List.pairwise_singleton _ _, rfl, Nat.zero_le _, (fun _ _ h => nomatch h), rfl, (fun _ h => nomatch h), (fun y hy => by rw [List.mem_singleton.mp hy]; exact u), rfl⟩
theorem BfsI.step {n : Nat} {l0 l : L} {f f' : List L} {T : List (List Nat)} {row : List Nat} (h : BfsI g U n l0 f T) (hl : f[T.length]? = some l) (r : RowI g U f l n f' row) : BfsI g U n l0 f' (T ++ [row]) := by
  obtain ⟨m, hm⟩ := r.pre
  have up : ∀ {i : Nat} {y : L}, f[i]? = some y → f'[i]? = some y := fun {i y} e => by
    rw [hm, List.getElem?_append_left (List.getElem?_eq_some_iff.mp e).1]
    exact e
  have hlt := (List.getElem?_eq_some_iff.mp hl).1
  have hlen : f.length ≤ f'.length := by rw [hm, List.length_append]; omega
  have tl : (T ++ [row]).length = T.length + 1 := by rw [List.length_append]; rfl
  refine ⟨r.nd, up h.hd, by omega, fun i q e => ?_, by rw [scanT_snoc, h.scan]; exact r.scan, fun k hk => ?_, r.sub, ?_⟩
  rotate_right 1
  · rw [tl]
    show (match (bfsN g n l0 T.length).1[T.length]? with | some l => ((rowF (g l) (bfsN g n l0 T.length).1 n).1, (bfsN g n l0 T.length).2 ++ [(rowF (g l) (bfsN g n l0 T.length).1 n).2]) | none => bfsN g n l0 T.length) = _
    rw [h.fn, hl]
    show ((rowF (g l) f n).1, T ++ [(rowF (g l) f n).2]) = _
    rw [r.fn]
  · by_cases hi : i < T.length
    · rw [List.getElem?_append_left hi] at e
      obtain ⟨e1, l1, e2, e3⟩ := h.rows i q e
      exact ⟨e1, l1, up e2, fun j x ex => up (e3 j x ex)⟩
    · rw [List.getElem?_append_right (by omega)] at e
      cases hk : i - T.length with
      | zero =>
        rw [hk] at e
        cases e
        rw [show i = T.length by omega]
        exact ⟨r.len, l, up hl, r.at_⟩
      | succ k =>
        rw [hk] at e
        cases e
  · by_cases hk2 : k < T.length
    · rw [List.take_append_of_le_length (by omega)]
      exact h.order k hk2
    · rw [show k = T.length by omega, List.take_append_of_le_length (Nat.le_refl _), List.take_length]
      exact ⟨_, h.scan, hlt⟩
theorem bfsN_stop {n : Nat} {l0 : L} {k : Nat} (h : (bfsN g n l0 k).1[k]? = none) : ∀ d, bfsN g n l0 (k + d) = bfsN g n l0 k
  | 0 => rfl
  | d + 1 => by
    have ih := bfsN_stop h d
    show (match (bfsN g n l0 (k + d)).1[k + d]? with | some l => _ | none => bfsN g n l0 (k + d)) = _
    rw [ih]
    have hn : (bfsN g n l0 k).1[k + d]? = none := List.getElem?_eq_none (Nat.le_trans (List.getElem?_eq_none_iff.mp h) (Nat.le_add_right _ _))
    rw [hn]
/-- a search that is over is the one alone -/
theorem BfsI.one {U' : List L} {n : Nat} {l0 : L} {f f' : List L} {T T' : List (List Nat)} (h : BfsI g U n l0 f T) (h' : BfsI g U' n l0 f' T') (e : T.length = f.length) (e' : T'.length = f'.length) : f = f' ∧ T = T' := by
  have main : ∀ {U U' : List L} {f f' : List L} {T T' : List (List Nat)}, BfsI g U n l0 f T → BfsI g U' n l0 f' T' → T.length = f.length → T.length ≤ T'.length → (f, T) = (f', T') := fun {U U' f f' T T'} h h' e le => by
    have s := bfsN_stop (g := g) (n := n) (l0 := l0) (k := T.length) (by rw [h.fn]; exact List.getElem?_eq_none (Nat.le_of_eq e.symm)) (T'.length - T.length)
    rw [show T.length + (T'.length - T.length) = T'.length by omega, h'.fn, h.fn] at s
    exact s.symm
  rcases Nat.le_total T.length T'.length with z | z
  · exact Prod.mk.inj (main h h' e z)
  · have := Prod.mk.inj (main h' h e' z)
    exact ⟨this.1.symm, this.2.symm⟩
theorem BfsI.bound {n : Nat} {l0 : L} {f : List L} {T : List (List Nat)} (h : BfsI g U n l0 f T) : f.length ≤ U.length := nodup_le h.nd h.sub
theorem RowI.bound {f0 f : List L} {l : L} {j : Nat} {row : List Nat} (h : RowI g U f0 l j f row) : f.length ≤ U.length := nodup_le h.nd h.sub
theorem RowI.bound1 {f0 f : List L} {l : L} {j : Nat} {row : List Nat} (h : RowI g U f0 l j f row) (n : g l j ∉ f) (u : g l j ∈ U) : f.length < U.length := by
  have := (h.new n u).bound
  rw [List.length_append] at this
  exact this
end
end Dw
namespace Dw
open PySem PySem.Spec PyProof.Rows L2 SX
/-! a search over tuples of ints, as it stands in the heap -/
theorem TupsAt.upd {H : Hp} {ts : List Addr} {T : List (List Int)} {x : Addr} {o o' : HO} (h : TupsAt H ts T) (e : H x = some o) (n : ∀ xs, HO.tup xs ≠ o) : TupsAt (L2.upd H x o') ts T := ⟨h.len, fun i a r h1 h2 => by
  have ea := h.at_ i a r h1 h2
  rw [upd_ne (ne_of ea e (n _))]
  exact ea⟩
theorem TupsAt.get {H : Hp} {ts : List Addr} {T : List (List Int)} {i : Nat} {r : List Int} (h : TupsAt H ts T) (e : T[i]? = some r) : ∃ a, ts[i]? = some a ∧ H a = some (.tup (r.map V.int)) := by
  have hi : i < ts.length := by rw [h.len]; exact (List.getElem?_eq_some_iff.mp e).1
  exact ⟨ts[i], List.getElem?_eq_getElem hi, h.at_ i _ _ (List.getElem?_eq_getElem hi) e⟩
theorem numT_last {ls : List (List Int)} {l : List Int} (h : l ∉ ls) : valV (numT 0 (ls ++ [l])) (kyT l) = some (nv ls.length) := by
  rw [numT_snoc, valV_snoc _ _ _ _ (numT_no 0 ls l h), if_pos rfl, Nat.zero_add]
def natT (T : List (List Nat)) : List (List Int) := T.map fun r => r.map fun (x : Nat) => (x : Int)
structure RS (H H1 : Hp) (g : List Int → Nat → List Int) (U : List (List Int)) (n : Nat) (l0 : List Int) (pF pN pT : Addr) (fs rs : List Addr) (ls : List (List Int)) (T : List (List Nat)) : Prop where
  same : Same H H1
  hF : H1 pF = some (.lst (fs.map V.ref))
  tF : TupsAt H1 fs ls
  hN : H1 pN = some (.dT (numT 0 ls))
  hT : H1 pT = some (.lst (rs.map V.ref))
  rows : RowsAt H1 rs (natT T)
  nr : ∀ y ∈ rs, H y = none ∧ y ≠ pF ∧ y ≠ pN ∧ y ≠ pT
  bfs : BfsI g U n l0 ls T
def FolOk (g : List Int → Nat → List Int) (U : List (List Int)) (n : Nat) (spF : Sp) (H : Hp) : Prop := ∀ H1 b l j Q1 E1, Same H H1 → H1 b = some (.tup (l.map V.int)) → l ∈ U → j < n → (∀ c H2, Same H1 H2 → H2 c = some (.tup ((g l j).map V.int)) → Q1 (.ref c) H2) → spF [.ref b, nv j] H1 Q1 E1
/-- what reached returns -/
structure RchAt (H H' : Hp) (g : List Int → Nat → List Int) (U : List (List Int)) (n : Nat) (l0 : List Int) (p : Addr) (ls : List (List Int)) (T : List (List Nat)) : Prop where
  ex : ∃ f t fs rs, H' p = some (.tup [.ref f, .ref t]) ∧ H' f = some (.lst (fs.map V.ref)) ∧ TupsAt H' fs ls ∧ H' t = some (.lst (rs.map V.ref)) ∧ RowsAt H' rs (natT T) ∧ H f = none ∧ H t = none ∧ t ≠ f ∧ (∀ y ∈ rs, H y = none ∧ y ≠ f ∧ y ≠ t)
  bfs : BfsI g U n l0 ls T
  all : T.length = ls.length
theorem RowsAt.ext {H H' : Hp} {rs : List Addr} {T : List (List Int)} (h : RowsAt H rs T) (e : ExtT H H') : RowsAt H' rs T := ⟨h.len, fun i a r h1 h2 => e.lst (h.at_ i a r h1 h2)⟩
theorem MachAt.ext {C : Addr} {H H' : Hp} {m : Addr} {w : Nat} {T : List (List Int)} {acc : List Bool} (h : MachAt C H m w T acc) (e : ExtT H H') : MachAt C H' m w T acc := by
  obtain ⟨dx, t, b, rs, h1, h2, h3, h4⟩ := h.ex
  exact ⟨dx, t, b, rs, e.keep _ _ h1 (fun _ z => nomatch z), e.lst h2, h3.ext e, e.lst h4⟩
theorem TupsAt.ext {H H' : Hp} {ts : List Addr} {T : List (List Int)} (h : TupsAt H ts T) (e : ExtT H H') : TupsAt H' ts T := ⟨h.len, fun i a r h1 h2 => e.tup (h.at_ i a r h1 h2)⟩
theorem TabN.same {H H' : Hp} {P : Addr} {nm : Nat → Nat → Str} (h : NdefX.TabN H P nm) (s : Same H H') : NdefX.TabN H' P nm := h.ext s
/-- pairs of states -/
def pairsU (n1 n2 : Nat) : List (List Int) := (List.range n1).flatMap fun a => (List.range n2).map fun b => [((a : Nat) : Int), ((b : Nat) : Int)]
theorem mem_pairsU {n1 n2 : Nat} {l : List Int} : l ∈ pairsU n1 n2 ↔ ∃ x y : Nat, x < n1 ∧ y < n2 ∧ l = [(x : Int), (y : Int)] := by
  unfold pairsU
  rw [List.mem_flatMap]
  constructor
  · rintro ⟨x, hx, h⟩
    obtain ⟨y, hy, rfl⟩ := List.mem_map.mp h
    exact ⟨x, y, List.mem_range.mp hx, List.mem_range.mp hy, rfl⟩
  · rintro ⟨x, y, hx, hy, rfl⟩
    exact ⟨x, List.mem_range.mpr hx, List.mem_map.mpr ⟨y, List.mem_range.mpr hy, rfl⟩⟩
theorem flat_const {α : Type} {f : Nat → List α} {k : Nat} (h : ∀ a, (f a).length = k) : ∀ n : Nat, ((List.range n).flatMap f).length = n * k
  | 0 => by rw [Nat.zero_mul]; rfl
  | n + 1 => by rw [List.range_succ, List.flatMap_append, List.length_append, flat_const h n, List.flatMap_singleton, h n, Nat.succ_mul]
theorem pairsU_len (n1 n2 : Nat) : (pairsU n1 n2).length = n1 * n2 := flat_const (fun a => by rw [List.length_map, List.length_range]) n1
end Dw
namespace Dw
open PySem PySem.Spec PyProof.Rows L2 SX
theorem Draw.ext {K : PySem.W.Frag} {H H' : Hp} {p q : Addr} {ns : List Int} (d : Draw K H p q ns) (x : ExtT H H') : Draw K H' p q ns := by
  refine ⟨fun H2 b2 => ?_, ?_⟩
  · by_cases e : q = p
    · subst e
      rcases d.1 (L2.upd H q (.tup [])) But.upd with (h | ⟨_, h⟩) | h
      · rw [upd_same] at h; cases h
      · rw [upd_same] at h; cases h
      · exact .inr h
    · rcases d.1 H (But.refl _ _) with (h | ⟨o, h⟩) | h
      · exact .inl (.inl (b2 _ _ e (x.lst h)))
      · exact .inl (.inr ⟨o, b2 _ _ e (x.keep _ _ h (fun _ z => nomatch z))⟩)
      · exact .inr h
  · obtain ⟨a, v, y, hp, h0, h1⟩ := d.2
    exact ⟨a, v, y, x.lst hp, h0, h1⟩
theorem MachP.ext {C : Addr} {H H' : Hp} {L : List Addr} {m : Addr} {w : Nat} {T : List (List Int)} {acc : List Bool} (h : MachP C H L m w T acc) (e : ExtT H H') : MachP C H' L m w T acc := by
  obtain ⟨dx, t, b, rs, h0, h1, h2, h3, h4⟩ := h
  exact ⟨dx, t, b, rs, h0, e.keep _ _ h1 (fun _ z => nomatch z), e.lst h2, h3.ext e, e.lst h4⟩
theorem TupsAt.but {H H' : Hp} {ts : List Addr} {T : List (List Int)} {p : Addr} {xs : List V} (h : TupsAt H ts T) (b : But p H H') (hp : H p = some (.lst xs)) : TupsAt H' ts T := ⟨h.len, fun i a r h1 h2 => by
  have ea := h.at_ i a r h1 h2
  exact b _ _ (ne_of ea hp (fun z => nomatch z)) ea⟩
end Dw
namespace Dw
open PySem PySem.Spec PyProof.Rows L2 SX
/-! a search over ints, as it stands in the heap -/
/-- the labels, numbered from k on -/
def numI : Nat → List Int → List (L2.Key × V)
  | _, [] => []
  | k, l :: ls => (.inl l, nv k) :: numI (k + 1) ls
theorem numI_len : ∀ (k : Nat) (ls : List Int), (numI k ls).length = ls.length
  | _, [] => rfl
  | k, l :: ls => by
    unfold numI
    rw [List.length_cons, List.length_cons, numI_len (k + 1) ls]
theorem numI_snoc : ∀ (k : Nat) (ls : List Int) (l : Int), numI k (ls ++ [l]) = numI k ls ++ [(.inl l, nv (k + ls.length))]
  | k, [], l => rfl
  | k, x :: ls, l => by
    rw [List.cons_append]
    unfold numI
    rw [numI_snoc (k + 1) ls l, List.cons_append, List.length_cons, show k + 1 + ls.length = k + (ls.length + 1) by omega]
theorem numI_no : ∀ (k : Nat) (ls : List Int) (l : Int), l ∉ ls → valV (numI k ls) (.inl l) = none
  | _, [], _, _ => rfl
  | k, x :: ls, l, h => by
    unfold numI
    rw [valV_neg (fun e => h (by rw [Sum.inl.inj e]; exact List.mem_cons_self))]
    exact numI_no (k + 1) ls l fun z => h (List.mem_cons_of_mem _ z)
theorem numI_at : ∀ (k : Nat) (ls : List Int) (l : Int), l ∈ ls → ∃ i, ls[i]? = some l ∧ valV (numI k ls) (.inl l) = some (nv (k + i))
  | _, [], _, h => nomatch h
  | k, x :: ls, l, h => by
    unfold numI
    by_cases e : x = l
    · exact ⟨0, by rw [e]; rfl, by rw [valV_pos (by rw [e])]; rfl⟩
    · obtain ⟨i, h1, h2⟩ := numI_at (k + 1) ls l ((List.mem_cons.mp h).resolve_left fun z => e z.symm)
      exact ⟨i + 1, h1, by rw [valV_neg (fun z => e (Sum.inl.inj z)), h2, show k + 1 + i = k + (i + 1) by omega]⟩
theorem numI_in {H : Hp} {d : Addr} {ls : List Int} {l : Int} (e : H d = some (.dK (numI 0 ls))) : DGet H d (.int l) (valV (numI 0 ls) (.inl l)) := DGet.k (k := .inl l) e
theorem numI_put {H : Hp} {d : Addr} {ls : List Int} {l : Int} (e : H d = some (.dK (numI 0 ls))) (n : l ∉ ls) (hl : ls.length < 1000) : DPut H d (.int l) (nv ls.length) (upd H d (.dK (numI 0 (ls ++ [l])))) := by
  have := DPut.k (v := nv ls.length) (k := .inl l) e (by rw [numI_len, sizeLine_eq]; omega)
  rwa [putK_new _ (numI_no 0 ls l n), show numI 0 ls ++ [(.inl l, nv ls.length)] = numI 0 (ls ++ [l]) by rw [numI_snoc, Nat.zero_add]] at this
theorem numI_last {ls : List Int} {l : Int} (h : l ∉ ls) : valV (numI 0 (ls ++ [l])) (.inl l) = some (nv ls.length) := by
  rw [numI_snoc, valV_snoc _ _ _ _ (numI_no 0 ls l h), if_pos rfl, Nat.zero_add]
structure RSI (H H1 : Hp) (g : Int → Nat → Int) (U : List Int) (n : Nat) (l0 : Int) (pF pN pT : Addr) (rs : List Addr) (ls : List Int) (T : List (List Nat)) : Prop where
  same : Same H H1
  hF : H1 pF = some (.lst (ls.map V.int))
  hN : H1 pN = some (.dK (numI 0 ls))
  hT : H1 pT = some (.lst (rs.map V.ref))
  rows : RowsAt H1 rs (natT T)
  nr : ∀ y ∈ rs, H y = none ∧ y ≠ pF ∧ y ≠ pN ∧ y ≠ pT
  bfs : BfsI g U n l0 ls T
def FolOkI (g : Int → Nat → Int) (U : List Int) (n : Nat) (spF : Sp) (H : Hp) : Prop := ∀ H1 l j Q1 E1, Same H H1 → l ∈ U → j < n → (∀ H2, Same H1 H2 → Q1 (.int (g l j)) H2) → spF [.int l, nv j] H1 Q1 E1
/-- what reached returns -/
structure RchAtI (H H' : Hp) (g : Int → Nat → Int) (U : List Int) (n : Nat) (l0 : Int) (p : Addr) (ls : List Int) (T : List (List Nat)) : Prop where
  ex : ∃ f t rs, H' p = some (.tup [.ref f, .ref t]) ∧ H' f = some (.lst (ls.map V.int)) ∧ H' t = some (.lst (rs.map V.ref)) ∧ RowsAt H' rs (natT T) ∧ H f = none ∧ H t = none ∧ t ≠ f ∧ (∀ y ∈ rs, H y = none ∧ y ≠ f ∧ y ≠ t)
  bfs : BfsI g U n l0 ls T
  all : T.length = ls.length
/-- the ints below n -/
def intsU (n : Nat) : List Int := (List.range n).map fun x => ((x : Nat) : Int)
theorem mem_intsU {n : Nat} {l : Int} : l ∈ intsU n ↔ ∃ x : Nat, x < n ∧ l = (x : Int) := by
  unfold intsU
  rw [List.mem_map]
  constructor
  · rintro ⟨x, hx, rfl⟩; exact ⟨x, List.mem_range.mp hx, rfl⟩
  · rintro ⟨x, hx, rfl⟩; exact ⟨x, List.mem_range.mpr hx, rfl⟩
theorem intsU_len (n : Nat) : (intsU n).length = n := by unfold intsU; rw [List.length_map, List.length_range]
/-! a list or a tuple, walked -/
def AnyS (K : PySem.W.Frag) (H : Hp) (a : Addr) (xs : List V) : Prop := SqL K H a xs ∨ SqT K H a xs
theorem AnyS.same {K : PySem.W.Frag} {H H' : Hp} {a : Addr} {xs : List V} (h : AnyS K H a xs) (s : Same H H') : AnyS K H' a xs := h.imp (fun h => s.seq h) (sameT s)
def iAny (K : PySem.W.Frag) (tl : TE) : TI := fun σ H R => tl σ H fun x H1 => ∃ a, x = .ref a ∧ (((∃ xs, SqL K H1 a xs) ∧ R (Itl K a) H1) ∨ ((∃ xs, SqT K H1 a xs) ∧ R (Itt K a) H1))
theorem piA {X : Cx} (K : PySem.W.Frag) {tg l : Expr} {tl : TE} (hl : PE X l tl) (h : X.K = K := by rfl) : PI X tg l (iAny K tl) := by
  subst h
  refine ⟨fun pins s σ H R I h => ?_⟩
  refine thn (hl.run pins s σ H _ I h) fun v s1 ⟨x, H1, I1, r1, q1⟩ => ?_
  obtain ⟨a, e, q⟩ := q1
  subst e
  cases r1
  rcases q with ⟨⟨xs, hq⟩, q⟩ | ⟨⟨xs, hq⟩, q⟩
  · obtain ⟨its, rv, p, hz⟩ := I1.list hq
    refine wpAny_pyIter_list p.isList ?_
    refine ⟨s1.heap.objs.size, [s1.heap.objs.size], _, _, H1, rfl, I1.kept (t' := s1.toks) fun b o e => Heap.get?_push_of_some _ e, turn_list a _, ⟨_, Heap.get?_push_size _ rfl, rfl, rfl⟩, fun b hb => ?_, q⟩
    have e : b = s1.heap.objs.size := by simpa using hb
    subst e
    exact I1.fpOk (Nat.le_refl _) (I1.hok.fresh (Nat.le_refl _))
  · obtain ⟨its, rv, p, hz⟩ := I1.tuple hq
    refine wpAny_pyIter_tuple (show s1.heap.IsTuple a its.toArray from p) ?_
    refine ⟨s1.heap.objs.size, [s1.heap.objs.size], _, _, H1, rfl, I1.kept (t' := s1.toks) fun b o e => Heap.get?_push_of_some _ e, turn_tuple a _, ⟨_, Heap.get?_push_size _ rfl, rfl, rfl⟩, fun b hb => ?_, q⟩
    have e : b = s1.heap.objs.size := by simpa using hb
    subst e
    exact I1.fpOk (Nat.le_refl _) (I1.hok.fresh (Nat.le_refl _))
/-- a comprehension over either, without a test: a new list of what each turn gives -/
theorem lc_any {K : PySem.W.Frag} {tl : TE} {a : Addr} {xs : List V} {g : TG} {te : TE} {vs : List Nat} {σ : L2.St} {H1 : Hp} {Qd : Addr → Hp → Prop} (ha : AnyS K H1 a xs) (htl : ∀ Q : VK, Q (.ref a) H1 → tl σ H1 Q) (out : Nat → V) (hn : xs.length ≤ 10000)
    (hs : ∀ D i x H (N : VK), H1 D = none → i < xs.length → Same H1 H → xs[i]? = some x → (∀ H2, Same H H2 → N (out i) H2) → g x (wipe σ vs) H fun σ2 H2 => wipe σ2 vs = wipe σ vs ∧ te σ2 H2 N)
    (hd : ∀ D H, H1 D = none → Same H1 H → H D = some (.lst ((List.range xs.length).map out)) → Qd D H) :
    iAny K tl σ H1 fun J H2 => ∀ D, H2 D = none → LcJ J g tYes te vs D σ H2 (Qd D) := by
  refine htl _ ⟨a, rfl, ?_⟩
  rcases ha with h | h
  · exact .inl ⟨⟨_, h⟩, fun D hD => lc_map walk_list out hn hD (fun H s => s.seq h) (fun i x H H' N hi s ⟨e, z⟩ ok => by subst e; exact hs D i x _ N hD hi s z ok) (hd D · hD)⟩
  · exact .inr ⟨⟨_, h⟩, fun D hD => lc_map walk_tup out hn hD (fun H s => sameT s h) (fun i x H H' N hi s ⟨e, z⟩ ok => by subst e; exact hs D i x _ N hD hi s z ok) (hd D · hD)⟩
theorem getD_at {a : List Bool} {x : Nat} (h : x < a.length) : a[x]? = some (a.getD x false) := by
  rw [List.getD_eq_getElem?_getD, List.getElem?_eq_getElem h]
  rfl
theorem natT_at {T : List (List Nat)} {i : Nat} {r : List Nat} (h : T[i]? = some r) : (natT T)[i]? = some (r.map fun (x : Nat) => (x : Int)) := by
  unfold natT
  rw [List.getElem?_map, h]
  rfl
theorem natT_nxt {T : List (List Nat)} {i j x : Nat} {r : List Nat} (h : T[i]? = some r) (hx : r[j]? = some x) : nxt (natT T) i j = x := by
  have e : (natT T).getD i [] = r.map fun (x : Nat) => (x : Int) := by
    rw [List.getD_eq_getElem?_getD, natT_at h]
    rfl
  unfold nxt
  rw [e, List.getD_eq_getElem?_getD, List.getElem?_map, hx]
  rfl
/-- a search that is over makes a machine -/
theorem mok_bfs {L : Type} [DecidableEq L] {g : L → Nat → L} {U : List L} {w : Nat} {l0 : L} {ls : List L} {T : List (List Nat)} {f : L → Bool} (hw : w ≤ 6) (bf : BfsI g U (2 ^ w) l0 ls T) (al : T.length = ls.length) (h4 : ls.length ≤ 400) (hf : ∀ l ∈ U, f l = f (g l 0)) : MOk w (natT T) (ls.map f) := by
  have h0 := (List.getElem?_eq_some_iff.mp bf.hd).1
  have ln : (natT T).length = T.length := by unfold natT; rw [List.length_map]
  refine ⟨hw, by omega, by omega, ?_, by rw [List.length_map]; omega, fun i hi => ?_⟩
  · unfold goodT
    rw [List.all_eq_true]
    intro r' hr'
    unfold natT at hr'
    obtain ⟨r, hr, rfl⟩ := List.mem_map.mp hr'
    obtain ⟨i, hi⟩ := List.mem_iff_getElem?.mp hr
    obtain ⟨h1, l, h2, h3⟩ := bf.rows i r hi
    unfold goodRow
    rw [Bool.and_eq_true, List.all_eq_true]
    refine ⟨decide_eq_true (by rw [List.length_map]; exact h1), fun x hx => ?_⟩
    obtain ⟨y, hy, rfl⟩ := List.mem_map.mp hx
    obtain ⟨j, hj⟩ := List.mem_iff_getElem?.mp hy
    have := (List.getElem?_eq_some_iff.mp (h3 j y hj)).1
    rw [Bool.and_eq_true]
    exact ⟨decide_eq_true (by omega), decide_eq_true (by omega)⟩
  · have hiT : T[i]? = some T[i] := List.getElem?_eq_getElem (by omega)
    obtain ⟨h1, l, h2, h3⟩ := bf.rows i _ hiT
    have hp : 0 < (T[i]'(by omega)).length := by rw [h1]; exact Nat.two_pow_pos w
    have hx0 : (T[i]'(by omega))[0]? = some (T[i]'(by omega))[0] := List.getElem?_eq_getElem hp
    rw [natT_nxt hiT hx0, List.getElem?_map, List.getElem?_map, h2, h3 0 _ hx0]
    show some (f l) = some (f (g l 0))
    rw [hf l (bf.sub l (List.mem_of_getElem? h2))]
/-- the row of a state of such a search -/
theorem bfs_row {L : Type} [DecidableEq L] {g : L → Nat → L} {U : List L} {n : Nat} {l0 : L} {ls : List L} {T : List (List Nat)} (bf : BfsI g U n l0 ls T) (al : T.length = ls.length) {i j : Nat} {l : L} (hl : ls[i]? = some l) (hj : j < n) : ∃ r x, T[i]? = some r ∧ r.length = n ∧ r[j]? = some x ∧ ls[x]? = some (g l j) ∧ nxt (natT T) i j = x := by
  have hi := (List.getElem?_eq_some_iff.mp hl).1
  have hiT : T[i]? = some (T[i]'(by omega)) := List.getElem?_eq_getElem (by omega)
  obtain ⟨h1, l', h2, h3⟩ := bf.rows i _ hiT
  rw [hl] at h2
  cases h2
  have hx : (T[i]'(by omega))[j]? = some ((T[i]'(by omega))[j]'(by omega)) := List.getElem?_eq_getElem (by omega)
  exact ⟨_, _, hiT, h1, hx, h3 j _ hx, natT_nxt hiT hx⟩
/-- the state behind a word has the label behind it -/
theorem bfs_run {L : Type} [DecidableEq L] {g : L → Nat → L} {U : List L} {n : Nat} {l0 : L} {ls : List L} {T : List (List Nat)} (bf : BfsI g U n l0 ls T) (al : T.length = ls.length) : ∀ (word : List Nat), (∀ l ∈ word, l < n) → ∀ (s : Nat) (l : L), ls[s]? = some l → ls[runT (natT T) s word]? = some (word.foldl g l)
  | [], _, _, _, h => h
  | x :: r, hw, s, l, h => by
    obtain ⟨_, y, _, _, _, h2, e⟩ := bfs_row bf al h (hw x List.mem_cons_self)
    show ls[runT (natT T) (nxt (natT T) s x) r]? = some (r.foldl g (g l x))
    rw [e]
    exact bfs_run bf al r (fun m hm => hw m (List.mem_cons_of_mem _ hm)) _ _ h2
theorem nc_K {CX : CXT} {P : Program} {w : World} {K : PySem.W.Frag} {mg : Str → Option Value} {base : Heap} {N : List Str} {F : NdefX.NF} {f : Addr} {A : Around} {outer : List Env} {s : Shared} {H : Hp} {E : XK} : (NdefX.ncx CX P w K mg base N F f A outer s H E).K = K := rfl
theorem nc_w {CX : CXT} {P : Program} {w : World} {K : PySem.W.Frag} {mg : Str → Option Value} {base : Heap} {N : List Str} {F : NdefX.NF} {f : Addr} {A : Around} {outer : List Env} {s : Shared} {H : Hp} {E : XK} : (NdefX.ncx CX P w K mg base N F f A outer s H E).w = w := rfl
theorem nc_prog {CX : CXT} {P : Program} {w : World} {K : PySem.W.Frag} {mg : Str → Option Value} {base : Heap} {N : List Str} {F : NdefX.NF} {f : Addr} {A : Around} {outer : List Env} {s : Shared} {H : Hp} {E : XK} : (NdefX.ncx CX P w K mg base N F f A outer s H E).prog = P := rfl
theorem same2 {H4 : Hp} {x dx : Addr} {o1 o2 : HO} (hx : H4 x = none) (hdx : H4 dx = none) : Same H4 (upd (upd H4 dx o1) x o2) := Dw.Same.new (same_upd hdx) hx
theorem same_mk {H H4 H' : Hp} {x dx : Addr} {o1 o2 : HO} (s : Same H H4) (hx : H4 x = none) (hdx : H4 dx = none) (b : But x (upd (upd H4 dx o1) x o2) H') : Same H H' := fun y o e => b y o (ne_of_none (s _ _ e) hx) (same2 hx hdx y o (s _ _ e))
theorem slL {X : Cx} (K : PySem.W.Frag) (h : X.K = K := by rfl) : SlR X (rSlL K) := h ▸ sl_list
end Dw
namespace Dw
open PySem PySem.Spec PyProof.Rows L2 SX
theorem inV_i (k : Int) : ∀ L : List Int, inV (.int k) (L.map V.int) = decide (k ∈ L)
  | [] => by simp [inV]
  | a :: L => by
    have ih := inV_i k L
    unfold inV at ih ⊢
    rw [List.map_cons, List.any_cons, ih]
    show (decide (a = k) || _) = _
    by_cases h : a = k
    · subst h; simp
    · have h' : ¬ k = a := fun e => h e.symm
      simp [h, h']
theorem flat_i (L : List Int) : (L.map V.int).all flatV = true := List.all_eq_true.mpr fun z hz => by
  obtain ⟨_, _, rfl⟩ := List.mem_map.mp hz
  rfl
/-- the word of some numbers, written with n letters -/
theorem wd_pad {ns : List Nat} {n : Nat} (h : bls ns ≤ n) : (List.range n).map (fun k => lo (bitAt ns k)) = wd ns ++ List.replicate (n - bls ns) 0 := by
  refine List.ext_getElem (by rw [List.length_map, List.length_range, List.length_append, wd_len, List.length_replicate]; omega) fun i p q => ?_
  rw [List.getElem_map, List.getElem_range]
  by_cases hi : i < bls ns
  · rw [List.getElem_append_left (by rw [wd_len]; exact hi)]
    unfold wd
    rw [List.getElem_map, List.getElem_range]
  · rw [List.getElem_append_right (by rw [wd_len]; omega), List.getElem_replicate]
    exact lo_bitAt_ge (by omega)
theorem takes_pad {w : Nat} {T : List (List Int)} {acc : List Bool} (k : MOk w T acc) {ns : List Nat} (hn : ns.length = w) {n : Nat} (h : bls ns ≤ n) : acc.getD (runT T 0 ((List.range n).map fun k => lo (bitAt ns k))) false = acc.getD (runT T 0 (wd ns)) false := by
  rw [wd_pad h, runT_app, List.getD_eq_getElem?_getD, List.getD_eq_getElem?_getD, k.zeros]
  exact runT_lt k.good _ _ (fun l hl => by have := wd_lt hl; rwa [hn] at this) k.pos
theorem bls_sub {a b : List Nat} (h : ∀ x ∈ a, x ∈ b) : bls a ≤ bls b := by
  by_cases ha : a = []
  · subst ha; exact Nat.zero_le _
  · obtain ⟨n, hn, e⟩ := bls_mem ha
    rw [← e]
    exact le_bls (h n hn)
end Dw
namespace Dw
open PySem PySem.Spec PyProof.Rows L2 SX
/-- the letters that have the digits of r on track t, and 0 on the others -/
def rwd (t n r : Nat) : List Nat := (List.range n).map fun j => wt 0 t (r / 2 ^ j % 2)
theorem rwd_succ (t n r : Nat) : rwd t (n + 1) r = wt 0 t (r % 2) :: rwd t n (r / 2) := by
  unfold rwd
  rw [List.range_succ_eq_map, List.map_cons, List.map_map, Nat.pow_zero, Nat.div_one]
  congr 1
  refine List.map_congr_left fun j _ => ?_
  show wt 0 t (r / 2 ^ (j + 1) % 2) = _
  rw [Nat.pow_succ, Nat.mul_comm, ← Nat.div_div_eq_div_mul]
theorem wt00 (t : Nat) : wt 0 t 0 = 0 := by unfold wt; simp
theorem rwd_lt {t n r w : Nat} (h : t < w) : ∀ l ∈ rwd t n r, l < 2 ^ w := fun l hl => by
  obtain ⟨j, _, rfl⟩ := List.mem_map.mp hl
  have e : wt 0 t (r / 2 ^ j % 2) = 2 ^ t * (r / 2 ^ j % 2) := by unfold wt; simp
  rw [e]
  have h1 : 2 ^ t < 2 ^ w := Nat.pow_lt_pow_right (by decide) h
  rcases Nat.mod_two_eq_zero_or_one (r / 2 ^ j) with z | z
  · rw [z, Nat.mul_zero]; exact Nat.two_pow_pos _
  · rw [z, Nat.mul_one]; exact h1
theorem rwd_more {t n r m : Nat} (h : r < 2 ^ n) : rwd t (n + m) r = rwd t n r ++ List.replicate m 0 := by
  refine List.ext_getElem (by simp [rwd]) fun i p q => ?_
  by_cases hi : i < n
  · rw [List.getElem_append_left (by simp [rwd]; exact hi)]
    simp [rwd]
  · rw [List.getElem_append_right (by simp [rwd]; omega), List.getElem_replicate]
    have : r / 2 ^ i = 0 := Nat.div_eq_of_lt (Nat.lt_of_lt_of_le h (Nat.pow_le_pow_right (by decide) (by omega)))
    simp [rwd, this, wt00]
section
variable {w : Nat} {T : List (List Int)} {acc : List Bool}
theorem rwd_acc (k : MOk w T acc) {t n r m q : Nat} (ht : t < w) (hq : q < T.length) (h : r < 2 ^ n) : acc.getD (runT T q (rwd t (n + m) r)) false = acc.getD (runT T q (rwd t n r)) false := by
  rw [rwd_more h, runT_app, List.getD_eq_getElem?_getD, List.getD_eq_getElem?_getD, k.zeros]
  exact runT_lt k.good _ _ (rwd_lt ht) hq
/-- the mark of a pair of a state and what is left of the number -/
def fL (T : List (List Int)) (acc : List Bool) (t : Nat) (l : List Int) : Bool := acc.getD (runT T (l.getD 0 0).toNat (rwd t 64 (l.getD 1 0).toNat)) false
def gF (T : List (List Int)) (t : Nat) (l : List Int) (j : Nat) : List Int := [((nxt T (l.getD 0 0).toNat (wt j t ((l.getD 1 0).toNat % 2)) : Nat) : Int), (((l.getD 1 0).toNat / 2 : Nat) : Int)]
theorem gF_at (T : List (List Int)) (t q r j : Nat) : gF T t [(q : Int), (r : Int)] j = [((nxt T q (wt j t (r % 2)) : Nat) : Int), ((r / 2 : Nat) : Int)] := rfl
theorem fL_at (T : List (List Int)) (acc : List Bool) (t q r : Nat) : fL T acc t [(q : Int), (r : Int)] = acc.getD (runT T q (rwd t 64 r)) false := rfl
def fixU (n num : Nat) : List (List Int) := (List.range n).flatMap fun a => (List.range 65).map fun k => [((a : Nat) : Int), ((num / 2 ^ k : Nat) : Int)]
theorem mem_fixU {n num : Nat} {l : List Int} : l ∈ fixU n num ↔ ∃ x k : Nat, x < n ∧ k < 65 ∧ l = [(x : Int), ((num / 2 ^ k : Nat) : Int)] := by
  unfold fixU
  rw [List.mem_flatMap]
  constructor
  · rintro ⟨x, hx, h⟩
    obtain ⟨y, hy, rfl⟩ := List.mem_map.mp h
    exact ⟨x, y, List.mem_range.mp hx, List.mem_range.mp hy, rfl⟩
  · rintro ⟨x, y, hx, hy, rfl⟩
    exact ⟨x, List.mem_range.mpr hx, List.mem_map.mpr ⟨y, List.mem_range.mpr hy, rfl⟩⟩
theorem fixU_len (n num : Nat) : (fixU n num).length = n * 65 := flat_const (fun a => by rw [List.length_map, List.length_range]) n
theorem wt_lt {j t v w : Nat} (hj : j < 2 ^ (w - 1)) (ht : t < w) (hv : v < 2) : wt j t v < 2 ^ w := by
  have hb : Bits ((bitsL j (w - 1)).take t ++ [v] ++ (bitsL j (w - 1)).drop t) := fun d hd => by
    rcases List.mem_append.mp hd with hd | hd
    · rcases List.mem_append.mp hd with hd | hd
      · exact bitsL_bits j (w - 1) d (List.mem_of_mem_take hd)
      · rw [List.mem_singleton.mp hd]; exact hv
    · exact bitsL_bits j (w - 1) d (List.mem_of_mem_drop hd)
  have := lo_lt hb
  rw [wt_lo hj (by omega)] at this
  refine Nat.lt_of_lt_of_le this (Nat.pow_le_pow_right (by decide) ?_)
  simp only [List.length_append, List.length_take, List.length_drop, bitsL_len, List.length_cons, List.length_nil]
  omega
theorem gF_in (k : MOk w T acc) {t num : Nat} (ht : t < w) (hn : num < 2 ^ 64) {l : List Int} (hl : l ∈ fixU T.length num) {j : Nat} (hj : j < 2 ^ (w - 1)) : gF T t l j ∈ fixU T.length num := by
  obtain ⟨x, i, hx, hi, rfl⟩ := mem_fixU.mp hl
  rw [gF_at]
  obtain ⟨_, _, _, h1⟩ := goodT_at k.good hx (wt_lt hj ht (Nat.mod_lt (num / 2 ^ i) (by decide)))
  refine mem_fixU.mpr ⟨_, min (i + 1) 64, h1, by omega, ?_⟩
  have e : num / 2 ^ i / 2 = num / 2 ^ (min (i + 1) 64) := by
    by_cases h : i < 64
    · rw [Nat.min_eq_left (by omega), Nat.pow_succ, Nat.div_div_eq_div_mul]
    · have : i = 64 := by omega
      subst this
      rw [Nat.div_eq_of_lt hn, Nat.min_eq_right (by omega), Nat.div_eq_of_lt hn]
  rw [e]
theorem fL_set (k : MOk w T acc) {t num : Nat} (ht : t < w) (hn : num < 2 ^ 64) {l : List Int} (hl : l ∈ fixU T.length num) : fL T acc t l = fL T acc t (gF T t l 0) := by
  obtain ⟨x, i, hx, hi, rfl⟩ := mem_fixU.mp hl
  obtain ⟨r, hr⟩ : ∃ r, r = num / 2 ^ i := ⟨_, rfl⟩
  have hr64 : r < 2 ^ 64 := by rw [hr]; exact Nat.lt_of_le_of_lt (Nat.div_le_self _ _) hn
  rw [← hr, gF_at, fL_at, fL_at, ← rwd_acc k (m := 1) ht hx hr64, rwd_succ]
  rfl
/-- the letters with the digits of the number put in -/
def zipw (t : Nat) (ls : List Nat) (r : Nat) : List Nat := (List.range ls.length).map fun j => wt (ls.getD j 0) t (r / 2 ^ j % 2)
theorem zipw_cons (t l : Nat) (ls : List Nat) (r : Nat) : zipw t (l :: ls) r = wt l t (r % 2) :: zipw t ls (r / 2) := by
  unfold zipw
  rw [List.length_cons, List.range_succ_eq_map, List.map_cons, List.map_map, Nat.pow_zero, Nat.div_one]
  congr 1
  refine List.map_congr_left fun j _ => ?_
  show wt (ls.getD j 0) t (r / 2 ^ (j + 1) % 2) = _
  rw [Nat.pow_succ, Nat.mul_comm, ← Nat.div_div_eq_div_mul]
theorem fold_gF (T : List (List Int)) (t : Nat) : ∀ (ls : List Nat) (q r : Nat), ls.foldl (gF T t) [(q : Int), (r : Int)] = [((runT T q (zipw t ls r) : Nat) : Int), ((r / 2 ^ ls.length : Nat) : Int)]
  | [], q, r => by
    show [(q : Int), (r : Int)] = [((q : Nat) : Int), ((r / 1 : Nat) : Int)]
    rw [Nat.div_one]
  | l :: ls, q, r => by
    rw [List.foldl_cons, gF_at, fold_gF T t ls, zipw_cons, List.length_cons, Nat.pow_succ, Nat.mul_comm, ← Nat.div_div_eq_div_mul]
    rfl
theorem lo_put {ns : List Nat} {t num : Nat} (ht : t ≤ ns.length) (k : Nat) : lo (bitAt (ns.take t ++ [num] ++ ns.drop t) k) = wt (lo (bitAt ns k)) t (num / 2 ^ k % 2) := by
  have hb := bitAt_bits ns k
  have h := lo_lt hb
  rw [bitAt_len] at h
  have e := bitsL_lo hb
  rw [bitAt_len] at e
  rw [← wt_lo h ht, e]
  unfold bitAt
  rw [List.map_append, List.map_append, List.map_take, List.map_drop]
  rfl
/-- what is taken with the number put in -/
theorem fix_run (k : MOk w T acc) {t num : Nat} (ht : t < w) (hn : num < 2 ^ 64) {ns : List Nat} (hl : ns.length + 1 = w) : fL T acc t ((wd ns).foldl (gF T t) [0, (num : Int)]) = acc.getD (runT T 0 (wd (ns.take t ++ [num] ++ ns.drop t))) false := by
  have e0 := fold_gF T t (wd ns) 0 num
  rw [show ((0 : Nat) : Int) = 0 from rfl] at e0
  rw [e0, fL_at, ← runT_app]
  have ew : zipw t (wd ns) num ++ rwd t 64 (num / 2 ^ (wd ns).length) = (List.range (bls ns + 64)).map fun j => lo (bitAt (ns.take t ++ [num] ++ ns.drop t) j) := by
    refine List.ext_getElem (by simp [zipw, rwd, wd_len]) fun i p q => ?_
    rw [List.getElem_map, List.getElem_range, lo_put (by omega)]
    by_cases hi : i < bls ns
    · rw [List.getElem_append_left (by simp [zipw, wd_len]; exact hi)]
      unfold zipw
      rw [List.getElem_map, List.getElem_range, List.getD_eq_getElem?_getD, wd_get hi]
      rfl
    · rw [List.getElem_append_right (by simp [zipw, wd_len]; omega)]
      simp only [rwd, zipw, List.getElem_map, List.getElem_range, List.length_map, List.length_range, wd_len]
      rw [Nat.div_div_eq_div_mul, ← Nat.pow_add, show bls ns + (i - bls ns) = i by omega, lo_bitAt_ge (by omega)]
  rw [ew]
  refine takes_pad k ?_ (bls_le fun x hx => ?_)
  · simp only [List.length_append, List.length_take, List.length_drop, List.length_cons, List.length_nil]
    omega
  · have h2 : ∀ y ∈ ns, y < 2 ^ (bls ns + 64) := fun y hy => Nat.lt_of_lt_of_le (lt_blen y) (Nat.pow_le_pow_right (by decide) (Nat.le_trans (le_bls hy) (Nat.le_add_right _ _)))
    rcases List.mem_append.mp hx with hx | hx
    · rcases List.mem_append.mp hx with hx | hx
      · exact h2 x (List.mem_of_mem_take hx)
      · rw [List.mem_singleton.mp hx]
        exact Nat.lt_of_lt_of_le hn (Nat.pow_le_pow_right (by decide) (Nat.le_add_left _ _))
    · exact h2 x (List.mem_of_mem_drop hx)
end
/-! what is raised behind a def that was made -/
def RzX (TBL : List NdefX.NTab) (C : Addr) (f : Str) (v : V) (H : Hp) (E : XK) : Prop := ∀ d H', ExtT H H' → NdefX.TabsN TBL H' → H d = none → H' d = some (.xd [(f, v)]) → E (.ref C) (some d) H'
theorem RzX.rz {TBL : List NdefX.NTab} {C : Addr} {f : Str} {v : V} {H H1 : Hp} {E : XK} (h : RzX TBL C f v H E) (x : ExtT H H1) (t : NdefX.TabsN TBL H1) : Rz C f v H1 E := fun d H' s n z => h d H' (x.trans (ExtT.of s)) (t.ext s) (x.free _ n) z
theorem RzX.ext {TBL : List NdefX.NTab} {C : Addr} {f : Str} {v : V} {H H1 : Hp} {E : XK} (h : RzX TBL C f v H E) (x : ExtT H H1) : RzX TBL C f v H1 E := fun d H' s t n z => h d H' (x.trans s) t (x.free _ n) z
theorem tabsN_but {TBL : List NdefX.NTab} {H H' : Hp} {p : Addr} {xs : List V} (h : NdefX.TabsN TBL H) (b : But p H H') (hp : H p = some (.lst xs)) : NdefX.TabsN TBL H' := fun q hq => by
  obtain ⟨ps, h1, h2, h3⟩ := h q hq
  refine ⟨ps, b _ _ (ne_of h1 hp (fun z => nomatch z)) h1, h2, fun pos cv hc => ?_⟩
  obtain ⟨c, e1, e2⟩ := h3 pos cv hc
  exact ⟨c, e1, b _ _ (ne_of e2 hp (fun z => nomatch z)) e2⟩
end Dw
namespace Dw
open PySem PySem.Spec PyProof.Rows L2 SX
theorem Pool.upd {H H' : Hp} {p q t : Addr} {ns : List Int} {o : HO} (d : Pool H p q ns) (b : But p H H') (d' : Pool H' p q ns) (ht : H t = none) : Pool (L2.upd H' t o) p q ns := d'.set (d.ne ht) (d.neq ht)
theorem Pool.free {H H' : Hp} {p q t : Addr} {ns : List Int} (d : Pool H p q ns) (b : But p H H') (d' : Pool H' p q ns) (ht : H' t = none) : H t = none := b.free d' ht
/-- the settled marks of drawn bits -/
def ringM (f : Nat → Nat) (n : Nat) (bits : List Bool) (acc : List Bool) : Prop := acc.length = n ∧ ∀ s, s < n → ∃ m, IsMin m (ringL f n s) ∧ acc[s]? = some (bits.getD m false)
theorem ringM_set {f : Nat → Nat} {n : Nat} {bits acc : List Bool} (h : ringM f n bits acc) (hf : ∀ x, x < n → f x < n) {i : Nat} (hi : i < n) : acc[i]? = acc[f i]? := by
  obtain ⟨m, h1, h2⟩ := h.2 i hi
  obtain ⟨k, h3, h4⟩ := h.2 (f i) (hf i hi)
  rw [h2, h4, h1.eq h3 fun x => ring_same hf hi]
/-! words that are accepted, counted -/
def cw (T : List (List Int)) (acc : List Bool) : Nat → Nat → Int
  | 0, s => if acc.getD s false = true then 1 else 0
  | d + 1, s => ((T.getD s []).map fun x => cw T acc d x.toNat).sum
def rowN (T : List (List Int)) (s : Nat) : List Nat := (T.getD s []).map Int.toNat
def stL (T : List (List Int)) : Nat → List Nat
  | 0 => [0]
  | d + 1 => (stL T d).flatMap (rowN T)
theorem sum_append (a b : List Int) : (a ++ b).sum = a.sum + b.sum := by
  induction a with
  | nil => simp
  | cons x r ih => simp [ih, Int.add_assoc]
theorem cw_rows (T : List (List Int)) (acc : List Bool) (d : Nat) : ∀ L : List Nat, (L.map (cw T acc (d + 1))).sum = ((L.flatMap (rowN T)).map (cw T acc d)).sum
  | [] => rfl
  | s :: L => by
    rw [List.map_cons, List.sum_cons, cw_rows T acc d L, List.flatMap_cons, List.map_append, sum_append]
    congr 1
    unfold rowN
    rw [List.map_map]
    rfl
theorem cw_st (T : List (List Int)) (acc : List Bool) : ∀ k d, ((stL T k).map (cw T acc d)).sum = cw T acc (k + d) 0
  | 0, d => by
    rw [Nat.zero_add]
    show cw T acc d 0 + 0 = _
    rw [Int.add_zero]
  | k + 1, d => by
    show (((stL T k).flatMap (rowN T)).map (cw T acc d)).sum = _
    rw [← cw_rows, cw_st T acc k (d + 1), show k + (d + 1) = k + 1 + d by omega]
theorem cw_count (T : List (List Int)) (acc : List Bool) : ∀ L : List Nat, (L.map (cw T acc 0)).sum = ((L.filter fun s => acc.getD s false).length : Int)
  | [] => rfl
  | s :: L => by
    rw [List.map_cons, List.sum_cons, cw_count T acc L]
    show (if acc.getD s false = true then (1 : Int) else 0) + _ = _
    by_cases h : acc.getD s false = true
    · rw [if_pos h, List.filter_cons, if_pos h, List.length_cons]; omega
    · rw [if_neg h, List.filter_cons, if_neg h]; omega
theorem st_lt {w : Nat} {T : List (List Int)} {acc : List Bool} (k : MOk w T acc) : ∀ d, ∀ s ∈ stL T d, s < T.length
  | 0, s, h => by rw [List.mem_singleton.mp h]; exact k.pos
  | d + 1, s, h => by
    obtain ⟨x, hx, hs⟩ := List.mem_flatMap.mp h
    obtain ⟨r, er, hrl, hrx⟩ := goodT_row k.good (st_lt k d x hx)
    unfold rowN at hs
    rw [List.getD_eq_getElem?_getD, er] at hs
    obtain ⟨y, hy, rfl⟩ := List.mem_map.mp hs
    have := hrx y hy
    omega
theorem st_len {w : Nat} {T : List (List Int)} {acc : List Bool} (k : MOk w T acc) : ∀ d, (stL T d).length = (2 ^ w) ^ d
  | 0 => rfl
  | d + 1 => by
    have : ∀ L : List Nat, (∀ s ∈ L, s < T.length) → (L.flatMap (rowN T)).length = L.length * 2 ^ w := fun L => by
      induction L with
      | nil => intro _; simp
      | cons s L ih =>
        intro h
        obtain ⟨r, er, hrl, _⟩ := goodT_row k.good (h s List.mem_cons_self)
        rw [List.flatMap_cons, List.length_append, ih fun x hx => h x (List.mem_cons_of_mem _ hx), List.length_cons, Nat.succ_mul]
        unfold rowN
        rw [List.length_map, List.getD_eq_getElem?_getD, er]
        show r.length + _ = _
        omega
    show ((stL T d).flatMap (rowN T)).length = _
    rw [this _ (st_lt k d), st_len k d, Nat.pow_succ]
end Dw
namespace Dw
open PySem PySem.Spec PyProof.Rows L2 SX
/-! weighted sums of digits, and the labels of an inequality -/
def wsum : List Int → Nat → Int
  | [], _ => 0
  | c :: cs, l => c * ((l % 2 : Nat) : Int) + wsum cs (l / 2)
theorem wsum_map : ∀ (cs : List Int) (l : Nat), ((List.range cs.length).map fun j => cs.getD j 0 * ((l / 2 ^ j % 2 : Nat) : Int)).sum = wsum cs l
  | [], _ => rfl
  | c :: cs, l => by
    rw [List.length_cons, List.range_succ_eq_map, List.map_cons, List.sum_cons, List.map_map]
    show c * ((l / 2 ^ 0 % 2 : Nat) : Int) + _ = c * ((l % 2 : Nat) : Int) + wsum cs (l / 2)
    rw [Nat.pow_zero, Nat.div_one, ← wsum_map cs (l / 2)]
    congr 2
    refine List.map_congr_left fun j _ => ?_
    show cs.getD j 0 * ((l / 2 ^ (j + 1) % 2 : Nat) : Int) = _
    rw [Nat.pow_succ, Nat.mul_comm (2 ^ j) 2, ← Nat.div_div_eq_div_mul]
theorem wsum_zero : ∀ cs : List Int, wsum cs 0 = 0
  | [] => rfl
  | c :: cs => by
    show c * ((0 % 2 : Nat) : Int) + wsum cs (0 / 2) = 0
    rw [Nat.zero_div, wsum_zero cs]
    simp
def wts (cs : List Int) : List Int := (List.range (2 ^ cs.length)).map (wsum cs)
theorem wts_at {cs : List Int} {j : Nat} (h : j < 2 ^ cs.length) : (wts cs)[j]? = some (wsum cs j) := by
  unfold wts
  rw [List.getElem?_map, List.getElem?_range h]
  rfl
theorem wts_len (cs : List Int) : (wts cs).length = 2 ^ cs.length := by unfold wts; rw [List.length_map, List.length_range]
def gL (ws : List Int) (r : Int) (j : Nat) : Int := (r - ws.getD j 0) / 2
theorem gL_at {cs : List Int} {j : Nat} (h : j < 2 ^ cs.length) (r : Int) : gL (wts cs) r j = (r - wsum cs j) / 2 := by
  unfold gL
  rw [List.getD_eq_getElem?_getD, wts_at h]
  rfl
def dotN : List Int → List Nat → Int
  | c :: cs, n :: ns => c * (n : Int) + dotN cs ns
  | _, _ => 0
def negS : List Int → Int
  | [] => 0
  | c :: cs => min c 0 + negS cs
def posS : List Int → Int
  | [] => 0
  | c :: cs => max c 0 + posS cs
theorem negS_le : ∀ cs, negS cs ≤ 0
  | [] => Int.le_refl _
  | c :: cs => by have := negS_le cs; show min c 0 + negS cs ≤ 0; omega
theorem posS_ge : ∀ cs, 0 ≤ posS cs
  | [] => Int.le_refl _
  | c :: cs => by have := posS_ge cs; show 0 ≤ max c 0 + posS cs; omega
theorem wsum_in : ∀ (cs : List Int) (l : Nat), negS cs ≤ wsum cs l ∧ wsum cs l ≤ posS cs
  | [], _ => ⟨Int.le_refl _, Int.le_refl _⟩
  | c :: cs, l => by
    obtain ⟨h1, h2⟩ := wsum_in cs (l / 2)
    show min c 0 + negS cs ≤ c * ((l % 2 : Nat) : Int) + wsum cs (l / 2) ∧ c * ((l % 2 : Nat) : Int) + wsum cs (l / 2) ≤ max c 0 + posS cs
    rcases Nat.mod_two_eq_zero_or_one l with z | z
    · rw [z]; simp only [Int.natCast_zero, Int.mul_zero]; omega
    · rw [z]; simp only [Int.natCast_one, Int.mul_one]; omega
theorem span_le : ∀ (cs : List Int) (b : Int), (∀ c ∈ cs, -b ≤ c ∧ c ≤ b) → posS cs - negS cs ≤ b * (cs.length : Int)
  | [], b, _ => by simp [posS, negS]
  | c :: cs, b, h => by
    have ih := span_le cs b fun x hx => h x (List.mem_cons_of_mem _ hx)
    have h1 := h c List.mem_cons_self
    show (max c 0 + posS cs) - (min c 0 + negS cs) ≤ b * ((cs.length + 1 : Nat) : Int)
    have : b * ((cs.length + 1 : Nat) : Int) = b * (cs.length : Int) + b := by rw [Int.natCast_add, Int.mul_add]; simp
    omega
theorem wsum_bit : ∀ (cs : List Int) (ns : List Nat) (k : Nat), cs.length = ns.length → wsum cs (lo (bitAt ns k)) = dotN cs (bitAt ns k)
  | [], [], _, _ => rfl
  | c :: cs, n :: ns, k, h => by
    have e : lo (bitAt (n :: ns) k) = n / 2 ^ k % 2 + 2 * lo (bitAt ns k) := rfl
    have hb : n / 2 ^ k % 2 < 2 := Nat.mod_lt _ (by decide)
    show c * ((lo (bitAt (n :: ns) k) % 2 : Nat) : Int) + wsum cs (lo (bitAt (n :: ns) k) / 2) = c * ((n / 2 ^ k % 2 : Nat) : Int) + dotN cs (bitAt ns k)
    rw [e, show (n / 2 ^ k % 2 + 2 * lo (bitAt ns k)) % 2 = n / 2 ^ k % 2 by omega, show (n / 2 ^ k % 2 + 2 * lo (bitAt ns k)) / 2 = lo (bitAt ns k) by omega, wsum_bit cs ns k (Nat.succ.inj h)]
  | [], _ :: _, _, h => nomatch h
  | _ :: _, [], _, h => nomatch h
theorem dot_step : ∀ (cs : List Int) (ns : List Nat) (m : Nat), dotN cs (ns.map (· % 2 ^ (m + 1))) = dotN cs (ns.map (· % 2 ^ m)) + 2 ^ m * dotN cs (bitAt ns m)
  | c :: cs, n :: ns, m => by
    have ih := dot_step cs ns m
    show c * ((n % 2 ^ (m + 1) : Nat) : Int) + dotN cs (ns.map (· % 2 ^ (m + 1))) = (c * ((n % 2 ^ m : Nat) : Int) + dotN cs (ns.map (· % 2 ^ m))) + 2 ^ m * (c * ((n / 2 ^ m % 2 : Nat) : Int) + dotN cs (bitAt ns m))
    rw [ih, Nat.mod_pow_succ, Int.natCast_add, Int.natCast_mul, Int.mul_add, Int.mul_add, Int.natCast_pow]
    have : c * (((2 : Nat) : Int) ^ m * ((n / 2 ^ m % 2 : Nat) : Int)) = 2 ^ m * (c * ((n / 2 ^ m % 2 : Nat) : Int)) := by rw [← Int.mul_assoc, Int.mul_comm c, Int.mul_assoc]; rfl
    rw [this]
    omega
  | [], ns, m => by cases ns <;> simp [dotN]
  | c :: cs, [], m => by simp [dotN, bitAt]
theorem fold_lab (cs : List Int) (ns : List Nat) (h : cs.length = ns.length) (r : Int) : ∀ m, ((List.range m).map fun k => lo (bitAt ns k)).foldl (gL (wts cs)) r = (r - dotN cs (ns.map (· % 2 ^ m))) / 2 ^ m
  | 0 => by
    have e : dotN cs (ns.map (· % 2 ^ 0)) = 0 := by
      have : ∀ (cs : List Int) (ns : List Nat), dotN cs (ns.map (· % 2 ^ 0)) = 0 := fun cs => by
        induction cs with
        | nil => intro ns; cases ns <;> rfl
        | cons c cs ih =>
          intro ns
          cases ns with
          | nil => rfl
          | cons n ns =>
            show c * ((n % 2 ^ 0 : Nat) : Int) + dotN cs (ns.map (· % 2 ^ 0)) = 0
            rw [ih ns, Nat.pow_zero, Nat.mod_one]
            simp
      exact this cs ns
    rw [e]
    show r = (r - 0) / 1
    rw [Int.sub_zero, Int.ediv_one]
  | m + 1 => by
    rw [List.range_succ, List.map_append, List.foldl_append, fold_lab cs ns h r m]
    have hlt : lo (bitAt ns m) < 2 ^ cs.length := by
      have := lo_lt (bitAt_bits ns m)
      rwa [bitAt_len, ← h] at this
    show gL (wts cs) _ (lo (bitAt ns m)) = _
    rw [gL_at hlt, wsum_bit cs ns m h, dot_step]
    have hp : (0 : Int) < 2 ^ m := Int.pow_pos (by decide)
    have e1 : (r - dotN cs (ns.map (· % 2 ^ m))) / 2 ^ m - dotN cs (bitAt ns m) = (r - (dotN cs (ns.map (· % 2 ^ m)) + 2 ^ m * dotN cs (bitAt ns m))) / 2 ^ m := by
      have := Int.add_mul_ediv_left (r - dotN cs (ns.map (· % 2 ^ m))) (-(dotN cs (bitAt ns m))) (Int.ne_of_gt hp)
      rw [show r - (dotN cs (ns.map (· % 2 ^ m)) + 2 ^ m * dotN cs (bitAt ns m)) = r - dotN cs (ns.map (· % 2 ^ m)) + 2 ^ m * -(dotN cs (bitAt ns m)) by rw [Int.mul_neg]; omega, this]
      omega
    rw [e1, Int.ediv_ediv_of_nonneg (Int.le_of_lt hp), Int.pow_succ]
theorem lab_word (cs : List Int) (ns : List Nat) (h : cs.length = ns.length) (r : Int) : (wd ns).foldl (gL (wts cs)) r = (r - dotN cs ns) / 2 ^ bls ns := by
  have e : ns.map (· % 2 ^ bls ns) = ns := by
    have : ∀ n ∈ ns, n % 2 ^ bls ns = n := fun n hn => Nat.mod_eq_of_lt (Nat.lt_of_lt_of_le (lt_blen n) (Nat.pow_le_pow_right (by decide) (le_bls hn)))
    exact (List.map_congr_left this).trans (List.map_id _)
  have h2 := fold_lab cs ns h r (bls ns)
  rw [e] at h2
  exact h2
/-- the labels between two ints -/
def labU (r0 A : Int) (n : Nat) : List Int := r0 :: (List.range n).map fun i => A + ((i : Nat) : Int)
theorem mem_labU {r0 A : Int} {n : Nat} {r : Int} : r ∈ labU r0 A n ↔ r = r0 ∨ (A ≤ r ∧ r < A + (n : Int)) := by
  unfold labU
  rw [List.mem_cons, List.mem_map]
  constructor
  · rintro (h | ⟨i, hi, rfl⟩)
    · exact .inl h
    · have := List.mem_range.mp hi; exact .inr ⟨by omega, by omega⟩
  · rintro (h | ⟨h1, h2⟩)
    · exact .inl h
    · exact .inr ⟨(r - A).toNat, List.mem_range.mpr (by omega), by omega⟩
theorem labU_len (r0 A : Int) (n : Nat) : (labU r0 A n).length = n + 1 := by unfold labU; rw [List.length_cons, List.length_map, List.length_range]
/-- few labels: coefficients whose sizes add up to at most 192, a constant of at most 255 -/
theorem labU_ok (cs : List Int) (r0 : Int) (h1 : posS cs - negS cs ≤ 192) (h2 : -255 ≤ r0 ∧ r0 ≤ 255) : ∃ U : List Int, r0 ∈ U ∧ U.length ≤ 400 ∧ ∀ r ∈ U, ∀ j, j < 2 ^ cs.length → gL (wts cs) r j ∈ U := by
  have hn := negS_le cs
  have hp := posS_ge cs
  obtain ⟨A, hA⟩ : ∃ A : Int, A = min (-(posS cs)) ((r0 - posS cs) / 2) := ⟨_, rfl⟩
  obtain ⟨B, hB⟩ : ∃ B : Int, B = max (-(negS cs)) ((r0 - negS cs) / 2) := ⟨_, rfl⟩
  refine ⟨labU r0 A (B - A + 1).toNat, mem_labU.mpr (.inl rfl), by rw [labU_len]; omega, fun r hr j hj => ?_⟩
  obtain ⟨w1, w2⟩ := wsum_in cs j
  rw [gL_at hj]
  refine mem_labU.mpr (.inr ?_)
  rcases mem_labU.mp hr with rfl | ⟨h3, h4⟩
  · omega
  · omega
end Dw
namespace Dw
open PySem PySem.Spec PyProof.Rows L2 SX
/-! dicts that number labels, None among them -/
abbrev lk (l : Option Int) : Option L2.Key := l.map Sum.inl
def lV : Option Int → V
  | none => .non
  | some i => .int i
theorem lk_inj {a b : Option Int} (h : lk a = lk b) : a = b := by
  cases a <;> cases b <;> first | rfl | (cases h; rfl) | cases h
theorem lV_is {P : Program} {w : World} {l : Option Int} {u : Value} (r : RelV (lV l) u) : (noneKind P w).is (lk l) u = true := by
  cases l with
  | none =>
    obtain rfl : u = Value.none := r
    rfl
  | some i =>
    obtain ⟨t, rfl⟩ := (show ∃ t, u = Value.int i t from r)
    exact mixKind_int P w i t
/-- the labels from the number k on -/
def NumR : Nat → List (Option Int) → List (Option L2.Key × Value) → Prop
  | _, [], [] => True
  | k, l :: ls, v :: vs => v.1 = lk l ∧ (∃ t, v.2 = .int ((k : Nat) : Int) t) ∧ NumR (k + 1) ls vs
  | _, _, _ => False
theorem NumR.len : ∀ {k : Nat} {ls : List (Option Int)} {vs : List (Option L2.Key × Value)}, NumR k ls vs → vs.length = ls.length
  | _, [], [], _ => rfl
  | _, l :: ls, v :: vs, h => congrArg (· + 1) (NumR.len h.2.2)
  | _, [], _ :: _, h => h.elim
  | _, _ :: _, [], h => h.elim
theorem NumR.snoc : ∀ {k : Nat} {ls : List (Option Int)} {vs : List (Option L2.Key × Value)} {l : Option Int} {t : Tok}, NumR k ls vs → NumR k (ls ++ [l]) (vs ++ [(lk l, .int ((k + ls.length : Nat) : Int) t)])
  | _, [], [], l, t, _ => ⟨rfl, ⟨t, rfl⟩, True.intro⟩
  | k, x :: ls, v :: vs, l, t, h => by
    refine ⟨h.1, h.2.1, ?_⟩
    have q := NumR.snoc (l := l) (t := t) h.2.2
    rw [List.length_cons, show k + (ls.length + 1) = k + 1 + ls.length by omega]
    exact q
  | _, [], _ :: _, _, _, h => h.elim
  | _, _ :: _, [], _, _, h => h.elim
theorem valueAt_cons {v : Option L2.Key × Value} {vs : List (Option L2.Key × Value)} {q : Option L2.Key} : valueAt (v :: vs) q = if v.1 = q then some v.2 else valueAt vs q := by
  unfold valueAt
  rw [List.find?_cons]
  by_cases h : v.1 = q
  · rw [if_pos h, decide_eq_true h]; rfl
  · rw [if_neg h, decide_eq_false h]
theorem NumR.no : ∀ {k : Nat} {ls : List (Option Int)} {vs : List (Option L2.Key × Value)} {l : Option Int}, NumR k ls vs → l ∉ ls → valueAt vs (lk l) = none
  | _, [], [], _, _, _ => rfl
  | k, x :: ls, v :: vs, l, h, n => by
    rw [valueAt_cons, if_neg (fun e => n (by rw [lk_inj (h.1.symm.trans e)]; exact List.mem_cons_self))]
    exact NumR.no h.2.2 fun z => n (List.mem_cons_of_mem _ z)
  | _, [], _ :: _, _, h, _ => h.elim
  | _, _ :: _, [], _, h, _ => h.elim
theorem NumR.yes : ∀ {k : Nat} {ls : List (Option Int)} {vs : List (Option L2.Key × Value)} {l : Option Int}, NumR k ls vs → l ∈ ls → ∃ (i : Nat) (t : Tok), ls[i]? = some l ∧ valueAt vs (lk l) = some (.int ((k + i : Nat) : Int) t)
  | _, [], [], _, _, m => nomatch m
  | k, x :: ls, v :: vs, l, h, m => by
    rw [valueAt_cons]
    by_cases e : x = l
    · obtain ⟨t, ht⟩ := h.2.1
      exact ⟨0, t, by rw [e]; rfl, by rw [if_pos (by rw [h.1, e]), ht]; rfl⟩
    · obtain ⟨i, t, h1, h2⟩ := NumR.yes h.2.2 ((List.mem_cons.mp m).resolve_left fun z => e z.symm)
      exact ⟨i + 1, t, h1, by rw [if_neg (fun z => e (lk_inj (h.1.symm.trans z))), h2, show k + 1 + i = k + (i + 1) by omega]⟩
  | _, [], _ :: _, _, h, _ => h.elim
  | _, _ :: _, [], _, h, _ => h.elim
theorem NumR.put {ls : List (Option Int)} {vs : List (Option L2.Key × Value)} {l : Option Int} {v : Value} (h : NumR 0 ls vs) (n : l ∉ ls) : stored vs (lk l) v = vs ++ [(lk l, v)] := by
  have q := h.no n
  unfold stored
  rw [if_neg]
  intro z
  obtain ⟨p, hp, e⟩ := List.any_eq_true.mp z
  have e := of_decide_eq_true e
  unfold valueAt at q
  rw [Option.map_eq_none_iff, List.find?_eq_none] at q
  exact q p hp (decide_eq_true e)
/-- at a: the dict that numbers ls -/
def NumAt (P : Program) (w : World) (a : Addr) (ls : List (Option Int)) (h : Heap) : Prop := (a == sysModules) = false ∧ ls.length ≤ 1000 ∧ ∃ vs, NumR 0 ls vs ∧ h.DictOf (noneKind P w) a vs
def NumN (P : Program) (w : World) (a : Addr) (ls : List (Option Int)) : HO := .ext fun h => NumAt P w a ls h
section
variable {P : Program} {w : World} {H : Hp} {h : Heap} {a : Addr} {ls : List (Option Int)}
theorem numN_new (R : NumAt P w a ls h) : ObjOk P w H h a (NumN P w a ls) := by
  obtain ⟨h1, h2, vs, r, o, es, ep, ho, q⟩ := id R
  refine ⟨R, ⟨o, ho⟩, fun g1 g2 p k => ?_⟩
  obtain ⟨h1, h2, vs, r, o, es, ep, ho, q⟩ := p
  exact ⟨h1, h2, vs, r, o, es, ep, k _ ho, q⟩
end
section
variable {X : Cx} {pins : List (Addr × Obj)} {σ : L2.St} {H : Hp} {s : Shared} {a : Addr} {ls : List (Option Int)} {l : Option Int}
theorem numN_get (I : Inv X pins σ H s) (e : H a = some (NumN X.prog X.w a ls)) : NumAt X.prog X.w a ls s.heap := (I.hok a _ e).1
/-- {label: 0} -/
def tDispN (P : Program) (w : World) (tk tv : TE) : TE := fun σ H Q => ∀ p, H p = none → tk σ (upd H p (NumN P w p [])) fun x H1 => tv σ H1 fun y H2 => H2 p = some (NumN P w p []) ∧ ∃ l, x = lV l ∧ y = .int 0 ∧ Q (.ref p) (upd H2 p (NumN P w p [l]))
theorem pe_dispN {k v : Expr} {pos : Pos} {tk tv : TE} (hk : PE X k tk) (hv : PE X v tv) : PE X (.Dict [some k] [v] pos) (tDispN X.prog X.w tk tv) := by
  refine ⟨fun pins s σ H Q I q => ?_⟩
  have hn := I.hok.fresh (Nat.le_refl s.heap.objs.size)
  have hsys : (s.heap.objs.size == sysModules) = false := beq_eq_false_iff_ne.mpr (Ne.symm (Nat.ne_of_lt I.big))
  have I1 := I.laid (a := s.heap.objs.size) (o := NumN X.prog X.w s.heap.objs.size []) (h' := s.heap.push { cls := .type "dict", data := .dict #[] }) (t' := s.toks) (fun _ _ q => Heap.get?_push_of_some _ q) (Nat.le_refl _) (numN_new ⟨hsys, Nat.zero_le _, [], True.intro, Heap.DictOf.new s.heap⟩)
  refine wpAny_Dict_walk (knd := noneKind X.prog X.w) rfl rfl (List.cons_ne_nil _ _) (by show (1 : Nat) ≤ 15; decide) ?_
  refine pairTrees_cons_walk (thn (hk.run pins _ σ _ _ I1 (q _ hn)) fun u s1 ⟨x, H1, I2, rx, q1⟩ => thn (hv.run pins s1 σ H1 _ I2 q1) fun w2 s2 ⟨y, H2, I3, ry, e, l, ex, ey, q2⟩ => pairTrees_nil_walk ?_)
  subst ex ey
  obtain ⟨t, rfl⟩ := (show ∃ t, w2 = Value.int 0 t from ry)
  obtain ⟨_, _, vs, r, dd⟩ := numN_get I3 e
  cases vs with
  | cons _ _ => exact r.elim
  | nil =>
    refine ⟨[(lk l, Value.int 0 t)], ⟨lV_is rx, rfl, trivial⟩, dd, fun h' dd' hs => ⟨.ref s.heap.objs.size, _, ?_, rfl, q2⟩⟩
    have he : ∃ q, h'.get? s.heap.objs.size = some q := let ⟨q, _, _, hq, _⟩ := dd'; ⟨q, hq⟩
    exact d_write I3 (by rw [e]; exact True.intro) hs he (numN_new ⟨hsys, by show (1 : Nat) ≤ 1000; decide, [(lk l, Value.int 0 t)], (show NumR 0 [l] [(lk l, Value.int 0 t)] from ⟨rfl, ⟨t, rfl⟩, True.intro⟩), dd'⟩)
/-- label not in d -/
def tNNot (P : Program) (w : World) (ty td : TE) : TE := fun σ H Q => ty σ H fun y H1 => td σ H1 fun x H2 => ∃ a l ls, x = .ref a ∧ y = lV l ∧ H2 a = some (NumN P w a ls) ∧ Q (.bl (!decide (l ∈ ls))) H2
theorem pc_nnot {o i : Expr} {td ty : TE} (hi : PE X i ty) (ho : PE X o td) : PC X .NotIn i o (tNNot X.prog X.w ty td) := by
  refine ⟨fun pins s σ H Q I h => ?_⟩
  refine thn (hi.run pins s σ H _ I h) fun iv s1 ⟨y, H1, I1, ry, q1⟩ => thn (ho.run pins s1 σ H1 _ I1 q1) fun u s2 ⟨x, H2, I2, rx, a, l, ls, ex, ey, e, q2⟩ => ?_
  subst ex ey
  obtain rfl : u = Value.ref a := rx
  obtain ⟨hd, _, vs, r, dd⟩ := numN_get I2 e
  refine wpAny_notIn_of (lV_is ry) hd dd.mapOf ?_
  have eb : (valueAt vs (lk l)).isSome = decide (l ∈ ls) := by
    by_cases m : l ∈ ls
    · obtain ⟨i, t, _, h2⟩ := r.yes m
      rw [h2, decide_eq_true m]; rfl
    · rw [r.no m, decide_eq_false m]; rfl
  rw [eb]
  exact ⟨.bl (!decide (l ∈ ls)), H2, I2.tok _, rfl, q2⟩
/-- d[label], there -/
def tNGet (P : Program) (w : World) (td ty : TE) : TE := fun σ H Q => td σ H fun x H1 => ty σ H1 fun y H2 => ∃ a l ls, x = .ref a ∧ y = lV l ∧ H2 a = some (NumN P w a ls) ∧ l ∈ ls ∧ ∀ i : Nat, ls[i]? = some l → Q (nv i) H2
theorem pe_nget {o i : Expr} {pos : Pos} {td ty : TE} (ho : PE X o td) (hi : PE X i ty) (hs : NoSl i) : PE X (.Subscript o i pos) (tNGet X.prog X.w td ty) := by
  refine ⟨fun pins s σ H Q I h => ?_⟩
  refine subD_of PySem.F.slot_dict_getitem.lookup hs (thn (ho.run pins s σ H _ I h) fun u s1 ⟨x, H1, I1, rx, q1⟩ => thn (hi.run pins s1 σ H1 _ I1 q1) fun iv s2 ⟨y, H2, I2, ry, a, l, ls, ex, ey, e, m, q2⟩ => ?_)
  subst ex ey
  obtain rfl : u = Value.ref a := rx
  obtain ⟨hd, _, vs, r, dd⟩ := numN_get I2 e
  obtain ⟨i, t, h1, h2⟩ := r.yes m
  rw [Nat.zero_add] at h2
  exact ⟨dd.typeIs, wpAny_getItem_of (lV_is ry) dd.mapOf h2 ⟨nv i, H2, I2.tok _, ⟨t, rfl⟩, q2 i h1⟩⟩
/-- d[label] = the next number, not there -/
def rNSet (P : Program) (w : World) : TSet := fun o i v H Q => ∃ a l ls, o = .ref a ∧ i = lV l ∧ v = nv ls.length ∧ H a = some (NumN P w a ls) ∧ l ∉ ls ∧ ls.length < 1000 ∧ Q (upd H a (NumN P w a (ls ++ [l])))
theorem set_n : PSet X (rNSet X.prog X.w) := by
  intro pins s σ H o i v ov iv u Q I ro ri rv h
  obtain ⟨a, l, ls, rfl, rfl, rfl, e, m, hl, q⟩ := h
  cases (show ov = Value.ref a from ro)
  obtain ⟨t, rfl⟩ := (show ∃ t, u = Value.int ((ls.length : Nat) : Int) t from rv)
  obtain ⟨hd, _, vs, r, dd⟩ := numN_get I e
  refine wpAny_setItem_pairs (hsz := by rw [r.len, sizeLine_eq]; omega) (lV_is ri) dd fun h' dd' hs => ?_
  have he : ∃ q, h'.get? a = some q := let ⟨q, _, _, hq, _⟩ := dd'; ⟨q, hq⟩
  rw [r.put m] at dd'
  have q1 := r.snoc (l := l) (t := t)
  rw [Nat.zero_add] at q1
  exact ⟨_, d_write I (by rw [e]; exact True.intro) hs he (numN_new ⟨hd, by rw [List.length_append]; show _ + 1 ≤ 1000; omega, _, q1, dd'⟩), q⟩
end
end Dw
namespace Dw
open PySem PySem.Spec PyProof.Rows L2 SX
/-! labels of equations and inequalities: None or an int -/
def gN (ex : Bool) (ws : List Int) (l : Option Int) (j : Nat) : Option Int := match l with
  | none => none
  | some r => if ex = true ∧ (r - ws.getD j 0) % 2 ≠ 0 then none else some ((r - ws.getD j 0) / 2)
def accL (ex : Bool) : Option Int → Bool
  | none => false
  | some r => if ex = true then decide (r = 0) else decide (0 ≤ r)
theorem gN_at {cs : List Int} {j : Nat} (ex : Bool) (h : j < 2 ^ cs.length) (r : Int) : gN ex (wts cs) (some r) j = if ex = true ∧ (r - wsum cs j) % 2 ≠ 0 then none else some ((r - wsum cs j) / 2) := by
  unfold gN
  rw [List.getD_eq_getElem?_getD, wts_at h]
  rfl
theorem accL_set (ex : Bool) (cs : List Int) (l : Option Int) : accL ex l = accL ex (gN ex (wts cs) l 0) := by
  cases l with
  | none => rfl
  | some r =>
    rw [gN_at ex (Nat.two_pow_pos _), wsum_zero, Int.sub_zero]
    cases ex with
    | false =>
      rw [if_neg (fun z => nomatch z.1)]
      show decide (0 ≤ r) = decide (0 ≤ r / 2)
      by_cases h : 0 ≤ r
      · rw [decide_eq_true h, decide_eq_true (by omega)]
      · rw [decide_eq_false h, decide_eq_false (by omega)]
    | true =>
      by_cases h2 : r % 2 = 0
      · rw [if_neg (fun z => z.2 h2)]
        show decide (r = 0) = decide (r / 2 = 0)
        by_cases h : r = 0
        · rw [h]; rfl
        · rw [decide_eq_false h, decide_eq_false (by omega)]
      · rw [if_pos ⟨rfl, h2⟩]
        show decide (r = 0) = false
        rw [decide_eq_false (by omega)]
theorem fold_none (ex : Bool) (ws : List Int) : ∀ js : List Nat, js.foldl (gN ex ws) none = none
  | [] => rfl
  | j :: js => fold_none ex ws js
/-- an inequality's labels are ints -/
theorem fold_le (ws : List Int) : ∀ (js : List Nat) (r : Int), js.foldl (gN false ws) (some r) = some (js.foldl (gL ws) r)
  | [], _ => rfl
  | j :: js, r => by
    rw [List.foldl_cons, List.foldl_cons]
    show js.foldl (gN false ws) (if false = true ∧ (r - ws.getD j 0) % 2 ≠ 0 then none else some ((r - ws.getD j 0) / 2)) = _
    rw [if_neg (fun z => nomatch z.1)]
    exact fold_le ws js _
theorem fold_eq (cs : List Int) (ns : List Nat) (h : cs.length = ns.length) (r : Int) : ∀ m, ((List.range m).map fun k => lo (bitAt ns k)).foldl (gN true (wts cs)) (some r) = if (r - dotN cs (ns.map (· % 2 ^ m))) % 2 ^ m = 0 then some ((r - dotN cs (ns.map (· % 2 ^ m))) / 2 ^ m) else none
  | 0 => by
    have e := fold_lab cs ns h r 0
    rw [if_pos (by rw [Int.pow_zero, Int.emod_one]), ← e]
    rfl
  | m + 1 => by
    rw [List.range_succ, List.map_append, List.foldl_append, fold_eq cs ns h r m]
    have hlt : lo (bitAt ns m) < 2 ^ cs.length := by
      have := lo_lt (bitAt_bits ns m)
      rwa [bitAt_len, ← h] at this
    show gN true (wts cs) _ (lo (bitAt ns m)) = _
    have hp : (0 : Int) < 2 ^ m := Int.pow_pos (by decide)
    obtain ⟨D, hD⟩ : ∃ D, D = r - dotN cs (ns.map (· % 2 ^ m)) := ⟨_, rfl⟩
    obtain ⟨w, hw⟩ : ∃ w, w = dotN cs (bitAt ns m) := ⟨_, rfl⟩
    obtain ⟨p, hp2⟩ : ∃ p : Int, p = 2 ^ m := ⟨_, rfl⟩
    have e1 : r - dotN cs (ns.map (· % 2 ^ (m + 1))) = D - p * w := by rw [dot_step, hD, hw, hp2]; omega
    rw [e1, Int.pow_succ, ← hD, ← hp2]
    rw [← hp2] at hp
    by_cases hz : D % p = 0
    · rw [if_pos hz, gN_at true hlt, wsum_bit cs ns m h, ← hw]
      obtain ⟨q, hq⟩ : ∃ q, q = D / p := ⟨_, rfl⟩
      have hDq : D = p * q := by rw [hq]; exact (Int.mul_ediv_cancel' (Int.dvd_of_emod_eq_zero hz)).symm
      have e2 : D - p * w = p * (q - w) := by rw [hDq, Int.mul_sub]
      rw [← hq, e2, Int.mul_emod_mul_of_pos _ _ hp]
      by_cases h2 : (q - w) % 2 = 0
      · rw [if_neg (fun z => z.2 h2), h2, Int.mul_zero, if_pos rfl, Int.mul_ediv_mul_of_pos _ _ hp]
      · rw [if_pos ⟨rfl, h2⟩, if_neg]
        intro z
        rcases Int.mul_eq_zero.mp z with z | z
        · omega
        · exact h2 z
    · rw [if_neg hz, if_neg]
      · rfl
      intro z
      apply hz
      have d1 : p ∣ D - p * w := Int.dvd_trans (Int.dvd_mul_right p 2) (Int.dvd_of_emod_eq_zero z)
      have d2 : p ∣ D := by
        have := Int.dvd_add d1 (Int.dvd_mul_right p w)
        rwa [Int.sub_add_cancel] at this
      exact Int.emod_eq_zero_of_dvd d2
/-- the labels that can be reached lie among these -/
theorem labN_ok (ex : Bool) (cs : List Int) (r0 : Int) : ∃ U : List (Option Int), some r0 ∈ U ∧ (ex = false → none ∉ U) ∧ (∀ l ∈ U, ∀ j, j < 2 ^ cs.length → gN ex (wts cs) l j ∈ U) ∧ (posS cs - negS cs ≤ 192 → -255 ≤ r0 → r0 ≤ 255 → U.length ≤ 400) := by
  have hn := negS_le cs
  have hp := posS_ge cs
  obtain ⟨A, hA⟩ : ∃ A : Int, A = min (-(posS cs)) ((r0 - posS cs) / 2) := ⟨_, rfl⟩
  obtain ⟨B, hB⟩ : ∃ B : Int, B = max (-(negS cs)) ((r0 - negS cs) / 2) := ⟨_, rfl⟩
  have stp : ∀ r ∈ labU r0 A (B - A + 1).toNat, ∀ j, j < 2 ^ cs.length → (r - wsum cs j) / 2 ∈ labU r0 A (B - A + 1).toNat := fun r hr j hj => by
    obtain ⟨w1, w2⟩ := wsum_in cs j
    refine mem_labU.mpr (.inr ?_)
    rcases mem_labU.mp hr with rfl | ⟨h3, h4⟩
    · omega
    · omega
  refine ⟨(if ex = true then [none] else []) ++ (labU r0 A (B - A + 1).toNat).map some, List.mem_append_right _ (List.mem_map.mpr ⟨r0, mem_labU.mpr (.inl rfl), rfl⟩), fun e => ?_, fun l hl j hj => ?_, fun h1 h2 h3 => ?_⟩
  · rw [e, if_neg (by decide), List.nil_append, List.mem_map]
    rintro ⟨r, _, h⟩
    cases h
  · rcases List.mem_append.mp hl with hl | hl
    · split at hl
      · rw [List.mem_singleton.mp hl]
        refine List.mem_append_left _ ?_
        rename_i hx
        rw [if_pos hx]
        exact List.mem_singleton.mpr rfl
      · cases hl
    · obtain ⟨r, hr, rfl⟩ := List.mem_map.mp hl
      rw [gN_at ex hj]
      by_cases hx : ex = true ∧ (r - wsum cs j) % 2 ≠ 0
      · refine List.mem_append_left _ ?_
        rw [if_pos hx.1, if_pos hx]
        exact List.mem_singleton.mpr rfl
      · rw [if_neg hx]
        exact List.mem_append_right _ (List.mem_map.mpr ⟨_, stp r hr j hj, rfl⟩)
  · rw [List.length_append, List.length_map, labU_len]
    split
    · rw [List.length_singleton]; omega
    · rw [List.length_nil]; omega
/-- what the machine of an equation takes -/
theorem eq_takes {cs : List Int} {cst : Int} {U : List (Option Int)} {ls : List (Option Int)} {T3 : List (List Nat)} (bf : BfsI (gN true (wts cs)) U (2 ^ cs.length) (some (-cst)) ls T3) (al : T3.length = ls.length) {ns : List Nat} (h : ns.length = cs.length) : (ls.map (accL true)).getD (runT (natT T3) 0 (wd ns)) false = decide (cst + dotN cs ns = 0) := by
  have hrun := bfs_run bf al (wd ns) (fun l hl => by have := wd_lt hl; rwa [h] at this) 0 _ bf.hd
  have e0 : ns.map (· % 2 ^ bls ns) = ns := by
    have : ∀ n ∈ ns, n % 2 ^ bls ns = n := fun n hn => Nat.mod_eq_of_lt (Nat.lt_of_lt_of_le (lt_blen n) (Nat.pow_le_pow_right (by decide) (le_bls hn)))
    exact (List.map_congr_left this).trans (List.map_id _)
  have hf := fold_eq cs ns h.symm (-cst) (bls ns)
  rw [e0] at hf
  rw [List.getD_eq_getElem?_getD, List.getElem?_map, hrun]
  show accL true ((wd ns).foldl (gN true (wts cs)) (some (-cst))) = _
  rw [show (wd ns).foldl (gN true (wts cs)) (some (-cst)) = _ from hf]
  have hp : (0 : Int) < 2 ^ bls ns := Int.pow_pos (by decide)
  by_cases hz : cst + dotN cs ns = 0
  · rw [decide_eq_true hz, show -cst - dotN cs ns = 0 by omega, Int.zero_emod, if_pos rfl, Int.zero_ediv]
    rfl
  · rw [decide_eq_false hz]
    split
    · rename_i hm
      show decide ((-cst - dotN cs ns) / 2 ^ bls ns = 0) = false
      refine decide_eq_false fun z => hz ?_
      have := Int.mul_ediv_add_emod (-cst - dotN cs ns) (2 ^ bls ns)
      rw [z, hm, Int.mul_zero] at this
      omega
    · rfl
theorem le_takes {cs : List Int} {cst : Int} {U : List (Option Int)} {ls : List (Option Int)} {T3 : List (List Nat)} (bf : BfsI (gN false (wts cs)) U (2 ^ cs.length) (some (-cst)) ls T3) (al : T3.length = ls.length) {ns : List Nat} (h : ns.length = cs.length) : (ls.map (accL false)).getD (runT (natT T3) 0 (wd ns)) false = decide (cst + dotN cs ns ≤ 0) := by
  have hrun := bfs_run bf al (wd ns) (fun l hl => by have := wd_lt hl; rwa [h] at this) 0 _ bf.hd
  rw [List.getD_eq_getElem?_getD, List.getElem?_map, hrun, fold_le, lab_word cs ns h.symm]
  have hp : (0 : Int) < 2 ^ bls ns := Int.pow_pos (by decide)
  have e := Int.ediv_nonneg_iff_of_pos (a := -cst - dotN cs ns) hp
  show decide (0 ≤ (-cst - dotN cs ns) / 2 ^ bls ns) = _
  by_cases h0 : cst + dotN cs ns ≤ 0
  · rw [decide_eq_true h0, decide_eq_true (e.mpr (by omega))]
  · rw [decide_eq_false h0, decide_eq_false (fun z => by have := e.mp z; omega)]
/-! a search over such labels, as it stands in the heap -/
structure RSN (P : Program) (w : World) (H H1 : Hp) (g : Option Int → Nat → Option Int) (U : List (Option Int)) (n : Nat) (l0 : Option Int) (pF pN pT : Addr) (rs : List Addr) (ls : List (Option Int)) (T : List (List Nat)) : Prop where
  same : Same H H1
  hF : H1 pF = some (.lst (ls.map lV))
  hN : H1 pN = some (NumN P w pN ls)
  hT : H1 pT = some (.lst (rs.map V.ref))
  rows : RowsAt H1 rs (natT T)
  nr : ∀ y ∈ rs, H y = none ∧ y ≠ pF ∧ y ≠ pN ∧ y ≠ pT
  bfs : BfsI g U n l0 ls T
def FolOkN (g : Option Int → Nat → Option Int) (U : List (Option Int)) (n : Nat) (spF : Sp) (H : Hp) : Prop := ∀ H1 l j Q1 E1, Same H H1 → l ∈ U → j < n → (∀ H2, Same H1 H2 → Q1 (lV (g l j)) H2) → spF [lV l, nv j] H1 Q1 E1
structure RchAtN (H H' : Hp) (g : Option Int → Nat → Option Int) (U : List (Option Int)) (n : Nat) (l0 : Option Int) (p : Addr) (ls : List (Option Int)) (T : List (List Nat)) : Prop where
  ex : ∃ f t rs, H' p = some (.tup [.ref f, .ref t]) ∧ H' f = some (.lst (ls.map lV)) ∧ H' t = some (.lst (rs.map V.ref)) ∧ RowsAt H' rs (natT T) ∧ H f = none ∧ H t = none ∧ t ≠ f ∧ (∀ y ∈ rs, H y = none ∧ y ≠ f ∧ y ≠ t)
  bfs : BfsI g U n l0 ls T
  all : T.length = ls.length
theorem lV_inj {a b : Option Int} (h : lV a = lV b) : a = b := by
  cases a <;> cases b <;> first | rfl | (cases h; rfl) | cases h
end Dw
namespace Dw
open PySem PySem.Spec PyProof.Rows L2 SX
/-! labels in lists: in, index, as data -/
theorem eqV_l (a b : Option Int) : eqV (lV a) (lV b) = decide (a = b) := by
  cases a <;> cases b
  · rfl
  · rfl
  · rfl
  · rename_i x y
    show (x == y) = _
    by_cases h : x = y
    · subst h; simp
    · simp [h]
theorem inV_l (l : Option Int) : ∀ L : List (Option Int), inV (lV l) (L.map lV) = decide (l ∈ L)
  | [] => by simp [inV]
  | a :: L => by
    have ih := inV_l l L
    unfold inV at ih ⊢
    rw [List.map_cons, List.any_cons, ih, eqV_l]
    by_cases h : a = l
    · subst h; simp
    · have h' : ¬ l = a := fun e => h e.symm
      simp [h, h']
theorem flat_l1 (l : Option Int) : flatV (lV l) = true := by cases l <;> rfl
theorem flat_l (L : List (Option Int)) : (L.map lV).all flatV = true := by
  rw [List.all_eq_true]
  intro v hv
  obtain ⟨l, _, rfl⟩ := List.mem_map.mp hv
  exact flat_l1 l
theorem mtIx {X : Cx} (K : PySem.W.Frag) (h : X.K = K := by rfl) : MtR X "list.index" (rIndex K) := h ▸ mt_index
/-- the place of a label -/
theorem index_l {K : PySem.W.Frag} {H : Hp} {a : Addr} {L : List (Option Int)} {l : Option Int} {Q : VK} (e : H a = some (.lst (L.map lV))) (nd : L.Nodup) {i : Nat} (hi : L[i]? = some l) (q : Q (nv i) H) : rIndex K (.ref a) [lV l] H Q := by
  refine ⟨a, L.map lV, lV l, i, lV l, rfl, rfl, SqL.of e, flat_l1 l, flat_l L, by rw [List.getElem?_map, hi]; rfl, by rw [eqV_l, decide_eq_true rfl], fun m z hm hz => ?_, q⟩
  rw [List.getElem?_map] at hz
  obtain ⟨x, hx, rfl⟩ := Option.map_eq_some_iff.mp hz
  rw [eqV_l, decide_eq_false]
  intro e
  subst e
  obtain ⟨h1, h2⟩ := List.getElem?_eq_some_iff.mp hx
  obtain ⟨h3, h4⟩ := List.getElem?_eq_some_iff.mp hi
  have := (List.getElem_inj nd (i := m) (j := i)).mp (by rw [h2, h4])
  omega
def labD : Option Int → PyData
  | none => .none
  | some i => .int i
theorem labs_dp {K : PySem.W.Frag} {H : Hp} : ∀ L : List (Option Int), DpAll K H (L.map lV) (L.map labD)
  | [] => .nil
  | none :: L => .cons .non (labs_dp L)
  | some i :: L => .cons (.int i) (labs_dp L)
theorem labs_depth : ∀ L : List (Option Int), PyData.depthAll (L.map labD) = 0
  | [] => by simp [PyData.depthAll]
  | none :: L => by simp [PyData.depthAll, PyData.depth, labD, labs_depth L]
  | some i :: L => by simp [PyData.depthAll, PyData.depth, labD, labs_depth L]
theorem labs_lay : ∀ L : List (Option Int), PyData.canLayAll0 (L.map labD) = true
  | [] => by simp [PyData.canLayAll0]
  | none :: L => by simp [PyData.canLayAll0, PyData.canLay0, labD, labs_lay L]
  | some i :: L => by simp [PyData.canLayAll0, PyData.canLay0, labD, labs_lay L]
theorem labs_shaped (L : List (Option Int)) : SeqAt.shaped (.list (L.map labD)) = true := by
  simp [SeqAt.shaped, PyData.canLay0, PyData.depth, labs_lay L, labs_depth L]
/-- the digits of a letter weighed from the first -/
theorem wsum_snoc : ∀ (cs : List Int) (c : Int) (l : Nat), wsum (cs ++ [c]) l = wsum cs l + c * ((l / 2 ^ cs.length % 2 : Nat) : Int)
  | [], c, l => by
    show c * ((l % 2 : Nat) : Int) + 0 = 0 + c * ((l / 1 % 2 : Nat) : Int)
    rw [Nat.div_one]; omega
  | x :: cs, c, l => by
    rw [List.cons_append]
    show x * ((l % 2 : Nat) : Int) + wsum (cs ++ [c]) (l / 2) = (x * ((l % 2 : Nat) : Int) + wsum cs (l / 2)) + c * ((l / 2 ^ (cs.length + 1) % 2 : Nat) : Int)
    rw [wsum_snoc cs c (l / 2), Nat.div_div_eq_div_mul, Nat.pow_succ, Nat.mul_comm 2]
    omega
theorem wsum_take_succ {cs : List Int} {i : Nat} {c : Int} (h : cs[i]? = some c) (l : Nat) : wsum (cs.take (i + 1)) l = wsum (cs.take i) l + c * ((l / 2 ^ i % 2 : Nat) : Int) := by
  have hi := (List.getElem?_eq_some_iff.mp h).1
  rw [List.take_add_one, h]
  show wsum (cs.take i ++ [c]) l = _
  rw [wsum_snoc, List.length_take, Nat.min_eq_left (Nat.le_of_lt hi)]
end Dw
namespace Dw
open PySem PySem.Spec PyProof.Rows L2
/-! try whose first clauses take every exception that comes: the clauses behind them are of any make -/
def wNamS (K : PySem.W.Frag) (D : Ends) : List Clause → WX
  | [] => fun _ _ _ _ => False
  | (c, i, ts) :: rest => fun cls d σ H => ∃ b, PySem.W.exmOne K cls c = some b ∧
      (b = true → ∀ a, H a = none → ts a cls d (unb i D) (σ.set i (some (.ref a))) H) ∧ (b = false → wNamS K D rest cls d σ H)
inductive NamS (X : Cx) : List ExceptHandler → List Clause → Prop
  | stop {hs : List ExceptHandler} : NamS X hs []
  | more {x n : Str} {c : Value} {i : Nat} {ts : Addr → Value → Option Addr → TS} {st : Stmt} {sts : List Stmt} {p p' : Pos} {hs : List ExceptHandler} {l : List Clause}
      (nm : Names X x c) (at_i : X.N[i]? = some n) (loc : X.env.kindOf n = some .local)
      (su : ∀ (a : Addr) (oe : Obj) (cls : Value) (d : Option Addr) (pn : List (Addr × Obj)), Zc cls d oe → (∃ vs, oe.data = .fields vs) → PSs (X.suite a ((a, oe) :: pn)) (st :: sts) (ts a cls d))
      (rest : NamS X hs l) : NamS X (.ExceptHandler (some (.Name x p)) (some n) (st :: sts) p' :: hs) ((c, i, ts) :: l)
section
variable {X : Cx} {D : Ends}
theorem nams_run {pins : List (Addr × Obj)} {σ : L2.St} {H : Hp} {a : Addr} {cls : Value} {d : Option Addr} {B : Heap} {sI s' : Shared} {h : Heap}
    (hst : X.stack = X.env :: X.outer) (hfm : X.env.frame = some X.env.locals) (hN : X.N.Nodup) (ok : X.Ok)
    (G : Got X pins σ H a cls d B sI s' h) : ∀ {hs : List ExceptHandler} {l : List Clause}, NamS X hs l → wNamS X.K D l cls d σ H →
    wpAny (model X.prog X.w) X.A (handleBy (.ref a) X.env hs) (SP X pins D) X.xe { s' with heap := h } := by
  intro hs l nmd
  have J3 : Inv X pins σ H { s' with heap := h } := G.J.landed G.nb G.fl.1 G.up G.os G.ag
  induction nmd with
  | stop =>
    intro w
    exact w.elim
  | @more x n c i ts st sts p p' hs2 l2 nm at_i loc su rest ih =>
    rintro ⟨b, hb, yes, no⟩
    obtain ⟨oe, vs, he, hz, hd⟩ := G.fl.there
    have S3 := J3.suite he hd G.na G.nL G.nF
    have typ : PySem.W.Looks (model X.prog X.w) h (typeOf (.ref a)) cls := fun A Q E s k q => wpAny_typeOf_ref (k _ _ he) (by rw [hz.1]; exact q)
    have look := PySem.W.exm_one (M := model X.prog X.w) J3.kIn typ hb
    refine wpAny_handleBy_cons (codeAny_handlers_test ?_) (by intro q; cases q)
    have name : ∀ {Q : Value → Shared → Prop} {E : Value → Shared → Prop}, Q c { s' with heap := h } →
        wpAny (model X.prog X.w) (X.A.mark (some (.ref a))) (eval (.Name x p) X.env) Q E { s' with heap := h } := by
      intro Q E q
      obtain ⟨g1, g2, g3 | ⟨g3, g4, g5⟩⟩ := nm
      · exact ld_glob (X := X.suite a ((a, oe) :: (X.pn ++ pins))) S3 g1 g3 q g2
      · exact ld_blt (X := X.suite a ((a, oe) :: (X.pn ++ pins))) S3 g1 g3 g4 q g5 g2
    refine name (look.here ?_)
    cases b with
    | false =>
      show wpAny _ X.A (handleBy (.ref a) X.env hs2) _ _ _
      exact ih (no rfl)
    | true =>
      refine codeAny_handlers_suite_as (HandSPX.lands_againZ G.fl fun h4 fl4 up4 => ?_)
      have J4 : Inv X pins σ H { s' with heap := h4 } := G.J.landed G.nb fl4.1 (G.up.trans up4) G.os G.ag
      obtain ⟨oe4, vs4, he4, hz4, hd4⟩ := fl4.there
      have S4 := J4.suite he4 hd4 G.na G.nL G.nF
      refine store_ok (X := X.suite a ((a, oe4) :: (X.pn ++ pins))) (v := .ref a) S4 hN at_i (.inl loc) rfl (fun s5 S5 => ?_) (.inr loc)
      refine wpAny_mono ((su a oe4 cls d (X.pn ++ pins) hz4 ⟨_, hd4⟩).run [] s5 _ H (unb i D) S5 (yes rfl a G.na)) (fun f s6 done => ?_) (fun _ _ z => False.elim z)
      have behind : ∀ {σ6 : L2.St} {H6 : Hp} {Q : Shared → Prop}, Inv (X.suite a ((a, oe4) :: (X.pn ++ pins))) [] σ6 H6 s6 → (∀ s7, Inv X pins (σ6.set i none) H6 s7 → Q s7) →
          wpAny (model X.prog X.w) X.A (do bindName X.env n .none; unbindBehindTheSuite X.env n p') (fun _ s7 => Q s7) X.xe s6 :=
        fun {σ6 H6 Q} S6 hq => gone_ok (S6.unsuite ok) hN at_i loc hq
      cases f with
      | ret u => obtain ⟨v6, σ6, H6, S6, r6, q6⟩ := done; exact behind S6 fun s7 J7 => ⟨_, _, _, J7, r6, q6⟩
      | next => obtain ⟨σ6, H6, S6, q6⟩ := done; exact behind S6 fun s7 J7 => ⟨_, _, J7, q6⟩
      | brk => obtain ⟨σ6, H6, S6, q6⟩ := done; exact behind S6 fun s7 J7 => ⟨_, _, J7, q6⟩
      | cont => obtain ⟨σ6, H6, S6, q6⟩ := done; exact behind S6 fun s7 J7 => ⟨_, _, J7, q6⟩
variable {body : List Stmt} {hd0 : ExceptHandler} {hds : List ExceptHandler} {l : List Clause} {pos : Pos} {tb : WX → TS}
theorem ps_try_nams (hst : X.stack = X.env :: X.outer) (hfm : X.env.frame = some X.env.locals) (hN : X.N.Nodup)
    (hb : ∀ (W : WX) (pn : List (Addr × Obj)) (xe : Value → Shared → Prop), Takes (X.tr pn xe) W → PassesOwn (model X.prog X.w) X.A X.env xe → PSs (X.tr pn xe) body (tb W))
    (hh : NamS X (hd0 :: hds) l) : PS X (.Try body (hd0 :: hds) [] [] pos) (fun D σ H => tb (wNamS X.K D l) D σ H) := by
  refine ⟨fun pins s σ H D I q0 => wpAny_Try_except ?_⟩
  have ok := I.ok
  have hfr : X.A.frames = some (X.env :: X.outer) := by rw [ok.frames, hst]
  let xe : Value → Shared → Prop := fun e s₁ => wpAny (model X.prog X.w) X.A (noteFrame e X.env)
    (fun _ s₂ => wpAny (model X.prog X.w) X.A (setFlight e none) (fun _ s₃ => wpAny (model X.prog X.w) X.A (handleBy e X.env (hd0 :: hds)) (SP X pins D) X.xe s₃) X.xe s₂) X.xe s₁
  have takes : Takes (X.tr (X.pn ++ pins) xe) (wNamS X.K D l) := by
    rintro u s' ⟨a, B, sI, pins', σ', H', cls, d, rfl, J', nb, up, sky, na, os, ag, w⟩
    have J : Inv X pins σ' H' sI := J'.ofTry ok
    have sky' : Sky B (X.env :: X.outer) a (Zc cls d) X.env.locals s'.heap := by rw [← hst]; exact sky
    show wpAny (model X.prog X.w) X.A (noteFrame (.ref a) X.env) _ _ _
    refine Sky.land Zc.steady hfr hfm sky' fun h3 fl3 up3 => ?_
    obtain ⟨oe3, vs3, he3, _, hd3⟩ := fl3.there
    have far : a ∉ frs (X.env :: X.outer) := fun hm => by
      obtain ⟨_, o', e', hnf⟩ := fl3.2.2.1.mem hm
      rw [he3] at e'
      cases e'
      exact hnf _ hd3
    refine nams_run hst hfm hN ok ⟨J, nb, up.trans up3, fl3, na, os, ag, fun z => ?_, fun hm => ?_⟩ hh w
    · exact far (List.mem_filterMap.mpr ⟨X.env, List.mem_cons_self, by rw [hfm, z]⟩)
    · obtain ⟨e, he, q⟩ := List.mem_filterMap.mp hm
      exact far (List.mem_filterMap.mpr ⟨e, List.mem_cons_of_mem _ he, q⟩)
  refine wpAny_mono ((hb _ (X.pn ++ pins) xe takes PassesOwn.looking).run [] s σ H D (I.toTry _) q0) (fun f s1 done => ?_) (fun _ _ z => z)
  cases f with
  | ret u => obtain ⟨v, σ', H', J', r, q⟩ := done; exact ⟨v, σ', H', J'.ofTry ok, r, q⟩
  | next => obtain ⟨σ', H', J', q⟩ := done; exact wpAny_execs_nil ⟨σ', H', J'.ofTry ok, q⟩
  | brk => obtain ⟨σ', H', J', q⟩ := done; exact ⟨σ', H', J'.ofTry ok, q⟩
  | cont => obtain ⟨σ', H', J', q⟩ := done; exact ⟨σ', H', J'.ofTry ok, q⟩
end
end Dw
namespace Dw
open PySem PySem.Spec PyProof.Rows L2 SX
/-! the sums of coefficients, and how many labels they lead to -/
def sumsF (cs : List Int) : List Int := cs.foldl (fun S c => S ++ S.map (· + c)) [0]
theorem sumsF_snoc (cs : List Int) (c : Int) : sumsF (cs ++ [c]) = sumsF cs ++ (sumsF cs).map (· + c) := by unfold sumsF; rw [List.foldl_append]; rfl
theorem sumsF_take {cs : List Int} {i : Nat} {c : Int} (h : cs[i]? = some c) : sumsF (cs.take (i + 1)) = sumsF (cs.take i) ++ (sumsF (cs.take i)).map (· + c) := by
  rw [List.take_add_one, h]
  exact sumsF_snoc _ _
theorem sums_gen : ∀ (cs : List Int) (S : List Int) (s : Int), s ∈ cs.foldl (fun S c => S ++ S.map (· + c)) S ↔ ∃ t ∈ S, ∃ j, j < 2 ^ cs.length ∧ s = t + wsum cs j
  | [], S, s => by
    constructor
    · intro h
      exact ⟨s, h, 0, by decide, by show s = s + 0; omega⟩
    · rintro ⟨t, ht, j, _, e⟩
      have : s = t := by rw [e]; show t + 0 = t; omega
      rw [this]; exact ht
  | c :: cs, S, s => by
    rw [List.foldl_cons, sums_gen cs]
    constructor
    · rintro ⟨t, ht, j, hj, e⟩
      rcases List.mem_append.mp ht with h | h
      · refine ⟨t, h, 2 * j, by rw [List.length_cons, Nat.pow_succ]; omega, ?_⟩
        show s = t + (c * ((2 * j % 2 : Nat) : Int) + wsum cs (2 * j / 2))
        rw [Nat.mul_mod_right, Nat.mul_div_cancel_left _ (by decide), e]
        simp
      · obtain ⟨u, hu, rfl⟩ := List.mem_map.mp h
        refine ⟨u, hu, 2 * j + 1, by rw [List.length_cons, Nat.pow_succ]; omega, ?_⟩
        show s = u + (c * (((2 * j + 1) % 2 : Nat) : Int) + wsum cs ((2 * j + 1) / 2))
        rw [show (2 * j + 1) % 2 = 1 by omega, show (2 * j + 1) / 2 = j by omega, e]
        simp
        omega
    · rintro ⟨t, ht, l, hl, e⟩
      have hl2 : l / 2 < 2 ^ cs.length := by rw [List.length_cons, Nat.pow_succ] at hl; omega
      have e : s = t + (c * ((l % 2 : Nat) : Int) + wsum cs (l / 2)) := e
      rcases Nat.mod_two_eq_zero_or_one l with h | h
      · rw [h] at e
        exact ⟨t, List.mem_append_left _ ht, l / 2, hl2, by rw [e]; simp⟩
      · rw [h] at e
        exact ⟨t + c, List.mem_append_right _ (List.mem_map.mpr ⟨t, ht, rfl⟩), l / 2, hl2, by rw [e]; simp; omega⟩
theorem mem_sums {cs : List Int} {s : Int} : s ∈ sumsF cs ↔ ∃ j, j < 2 ^ cs.length ∧ s = wsum cs j := by
  unfold sumsF
  rw [sums_gen]
  constructor
  · rintro ⟨t, ht, j, hj, e⟩
    rw [List.mem_singleton.mp ht] at e
    exact ⟨j, hj, by omega⟩
  · rintro ⟨j, hj, e⟩
    exact ⟨0, List.mem_singleton.mpr rfl, j, hj, by omega⟩
theorem sums_len : ∀ cs : List Int, (sumsF cs).length = 2 ^ cs.length := by
  have : ∀ (cs : List Int) (S : List Int), (cs.foldl (fun S c => S ++ S.map (· + c)) S).length = S.length * 2 ^ cs.length := by
    intro cs
    induction cs with
    | nil => intro S; show S.length = S.length * 1; omega
    | cons c cs ih =>
      intro S
      rw [List.foldl_cons, ih, List.length_append, List.length_map, List.length_cons, Nat.pow_succ, ← Nat.two_mul, Nat.mul_assoc, Nat.mul_left_comm, Nat.mul_comm 2]
  intro cs
  have := this cs [0]
  rw [List.length_singleton, Nat.one_mul] at this
  exact this
/-- a set of labels that can't be left -/
def ClosN (ex : Bool) (cs : List Int) (r0 : Int) (C : List (Option Int)) : Prop := some r0 ∈ C ∧ ∀ l ∈ C, ∀ j, j < 2 ^ cs.length → gN ex (wts cs) l j ∈ C
abbrev odd? (ex : Bool) (x s : Int) : Prop := ex = true ∧ (x - s) % 2 ≠ 0
def lsD (ws : List Int) (dead : Bool) : List (Option Int) := ws.map some ++ (if dead = true then [none] else [])
theorem mem_lsD {ws : List Int} {dead : Bool} {l : Option Int} : l ∈ lsD ws dead ↔ (∃ x ∈ ws, some x = l) ∨ (dead = true ∧ l = none) := by
  unfold lsD
  rw [List.mem_append, List.mem_map]
  constructor
  · rintro (h | h)
    · exact .inl h
    · split at h
      · exact .inr ⟨by assumption, List.mem_singleton.mp h⟩
      · cases h
  · rintro (h | ⟨h, rfl⟩)
    · exact .inl h
    · rw [if_pos h]; exact .inr (List.mem_singleton.mpr rfl)
theorem lsD_len (ws : List Int) (dead : Bool) : (lsD ws dead).length = ws.length + (if dead = true then 1 else 0) := by
  unfold lsD
  rw [List.length_append, List.length_map]
  split <;> rfl
theorem lsD_nodup {ws : List Int} (h : ws.Nodup) (dead : Bool) : (lsD ws dead).Nodup := by
  unfold lsD
  refine List.nodup_append.mpr ⟨?_, ?_, ?_⟩
  · exact List.Pairwise.map _ (fun a b hab e => hab (Option.some.inj e)) h
  · split
    · exact (by simp)
    · exact List.nodup_nil
  · intro a ha b hb e
    obtain ⟨x, _, rfl⟩ := List.mem_map.mp ha
    split at hb
    · rw [List.mem_singleton.mp hb] at e; cases e
    · cases hb
/-- the search, after some turns -/
structure CntI (ex : Bool) (cs : List Int) (r0 : Int) (ws : List Int) (dead : Bool) : Prop where
  nd : ws.Nodup
  hd : ws[0]? = some r0
  rch : ∀ C, ClosN ex cs r0 C → ∀ l ∈ lsD ws dead, l ∈ C
  fls : ex = false → dead = false
/-- these sums were looked at from x -/
def DoneS (ex : Bool) (ws : List Int) (dead : Bool) (x : Int) (S : List Int) : Prop := ∀ s ∈ S, (odd? ex x s → dead = true) ∧ (¬ odd? ex x s → (x - s) / 2 ∈ ws)
theorem CntI.start (ex : Bool) (cs : List Int) (r0 : Int) : CntI ex cs r0 [r0] false := ⟨(by simp), rfl, fun C hC l hl => (by
  rcases mem_lsD.mp hl with ⟨x, hx, rfl⟩ | ⟨h, _⟩
  · rw [List.mem_singleton.mp hx]; exact hC.1
  · cases h), fun _ => rfl⟩
theorem next_in {ex : Bool} {cs : List Int} {r0 : Int} {C : List (Option Int)} (hC : ClosN ex cs r0 C) {x s : Int} (hx : some x ∈ C) (hs : s ∈ sumsF cs) : (odd? ex x s → none ∈ C) ∧ (¬ odd? ex x s → some ((x - s) / 2) ∈ C) := by
  obtain ⟨j, hj, rfl⟩ := mem_sums.mp hs
  have h := hC.2 _ hx j hj
  rw [gN_at ex hj] at h
  exact ⟨fun o => by rwa [if_pos o] at h, fun o => by rwa [if_neg o] at h⟩
theorem CntI.dead {ex : Bool} {cs : List Int} {r0 : Int} {ws : List Int} {d : Bool} (h : CntI ex cs r0 ws d) {x s : Int} (hx : x ∈ ws) (hs : s ∈ sumsF cs) (o : odd? ex x s) : CntI ex cs r0 ws true := ⟨h.nd, h.hd, fun C hC l hl => (by
  rcases mem_lsD.mp hl with ⟨y, hy, rfl⟩ | ⟨_, rfl⟩
  · exact h.rch C hC _ (mem_lsD.mpr (.inl ⟨y, hy, rfl⟩))
  · exact (next_in hC (h.rch C hC _ (mem_lsD.mpr (.inl ⟨x, hx, rfl⟩))) hs).1 o), fun e => by rw [e] at o; exact nomatch o.1⟩
theorem CntI.add {ex : Bool} {cs : List Int} {r0 : Int} {ws : List Int} {d : Bool} (h : CntI ex cs r0 ws d) {x s : Int} (hx : x ∈ ws) (hs : s ∈ sumsF cs) (o : ¬ odd? ex x s) (hn : (x - s) / 2 ∉ ws) : CntI ex cs r0 (ws ++ [(x - s) / 2]) d := ⟨snoc_nodup h.nd hn, (by
  have h0 : 0 < ws.length := (List.getElem?_eq_some_iff.mp h.hd).1
  rw [List.getElem?_append_left h0]; exact h.hd), fun C hC l hl => (by
  rcases mem_lsD.mp hl with ⟨y, hy, rfl⟩ | ⟨e, rfl⟩
  · rcases List.mem_append.mp hy with hy | hy
    · exact h.rch C hC _ (mem_lsD.mpr (.inl ⟨y, hy, rfl⟩))
    · rw [List.mem_singleton.mp hy]
      exact (next_in hC (h.rch C hC _ (mem_lsD.mpr (.inl ⟨x, hx, rfl⟩))) hs).2 o
  · exact h.rch C hC _ (mem_lsD.mpr (.inr ⟨e, rfl⟩))), h.fls⟩
theorem DoneS.more {ex : Bool} {ws m : List Int} {d d' : Bool} {x : Int} {S : List Int} (h : DoneS ex ws d x S) (hd : d = true → d' = true) : DoneS ex (ws ++ m) d' x S := fun s hs => ⟨fun o => hd ((h s hs).1 o), fun o => List.mem_append_left _ ((h s hs).2 o)⟩
theorem DoneS.snoc {ex : Bool} {ws : List Int} {d : Bool} {x s : Int} {S : List Int} (h : DoneS ex ws d x S) (h1 : odd? ex x s → d = true) (h2 : ¬ odd? ex x s → (x - s) / 2 ∈ ws) : DoneS ex ws d x (S ++ [s]) := fun t ht => by
  rcases List.mem_append.mp ht with ht | ht
  · exact h t ht
  · rw [List.mem_singleton.mp ht]; exact ⟨h1, h2⟩
/-- what the count says -/
structure CntOk (ex : Bool) (cs : List Int) (r0 : Int) (W : List (Option Int)) : Prop where
  nd : W.Nodup
  rch : ∀ C, ClosN ex cs r0 C → ∀ l ∈ W, l ∈ C
  clo : W.length ≤ 400 → ClosN ex cs r0 W ∧ (ex = false → none ∉ W)
theorem CntI.ok {ex : Bool} {cs : List Int} {r0 : Int} {ws : List Int} {d : Bool} (h : CntI ex cs r0 ws d) (a : (lsD ws d).length ≤ 400 → ∀ x ∈ ws, DoneS ex ws d x (sumsF cs)) : CntOk ex cs r0 (lsD ws d) := ⟨lsD_nodup h.nd d, h.rch, fun hl => ⟨⟨mem_lsD.mpr (.inl ⟨r0, List.mem_of_getElem? h.hd, rfl⟩), fun l hlm j hj => (by
  rcases mem_lsD.mp hlm with ⟨x, hx, rfl⟩ | ⟨e, rfl⟩
  · have := a hl x hx _ (mem_sums.mpr ⟨j, hj, rfl⟩)
    rw [gN_at ex hj]
    by_cases o : odd? ex x (wsum cs j)
    · rw [if_pos o]; exact mem_lsD.mpr (.inr ⟨this.1 o, rfl⟩)
    · rw [if_neg o]; exact mem_lsD.mpr (.inl ⟨_, this.2 o, rfl⟩)
  · exact mem_lsD.mpr (.inr ⟨e, rfl⟩))⟩, fun e hn => by
  rcases mem_lsD.mp hn with ⟨x, _, z⟩ | ⟨z, _⟩
  · cases z
  · rw [h.fls e] at z; cases z⟩⟩
end Dw
namespace Dw
open PySem PySem.Spec PyProof.Rows L2 SX
/-! len of a dict, and a dict whose keys are ints, all with the value True -/
def rLenD : List V → Hp → VK → Prop := fun xs H Q => ∃ p kvs, xs = [.ref p] ∧ Rd H p (.dK kvs) ∧ Q (.int kvs.length) H
theorem kv_len {kvs : List (L2.Key × V)} {vs : List (L2.Key × Value)} (h : KV kvs vs) : vs.length = kvs.length := by
  induction h <;> simp_all
theorem lenD {X : Cx} : CallR X (.builtin "len") rLenD := by
  intro pins s σ H xs us Q I r h
  obtain ⟨p, kvs, rfl, hd, q⟩ := h
  obtain ⟨u, rfl, rx⟩ := vals1 r
  cases rx
  obtain ⟨hz, hs, vs, kv, dm⟩ := dk_rd I.hok hd
  have e := kv_len kv
  have hn := line63
  exact call_len_dict hs dm (by omega) ⟨.int kvs.length, H, (I.tok _), ⟨_, by rw [e]⟩, q⟩
def seenT (ws : List Int) : List (L2.Key × V) := ws.map fun x => (Sum.inl x, V.bl true)
theorem seenT_len (ws : List Int) : (seenT ws).length = ws.length := by unfold seenT; rw [List.length_map]
theorem seenT_snoc (ws : List Int) (l : Int) : seenT (ws ++ [l]) = seenT ws ++ [(.inl l, V.bl true)] := by unfold seenT; rw [List.map_append]; rfl
theorem seenT_no : ∀ (ws : List Int) (l : Int), l ∉ ws → valV (seenT ws) (.inl l) = none
  | [], _, _ => rfl
  | x :: ws, l, h => by
    show valV ((Sum.inl x, V.bl true) :: seenT ws) (.inl l) = none
    rw [valV_neg (fun e => h (by rw [Sum.inl.inj e]; exact List.mem_cons_self))]
    exact seenT_no ws l fun z => h (List.mem_cons_of_mem _ z)
theorem seenT_at : ∀ (ws : List Int) (l : Int), l ∈ ws → valV (seenT ws) (.inl l) = some (.bl true)
  | [], _, h => nomatch h
  | x :: ws, l, h => by
    show valV ((Sum.inl x, V.bl true) :: seenT ws) (.inl l) = _
    by_cases e : x = l
    · rw [valV_pos (by rw [e])]
    · rw [valV_neg (fun z => e (Sum.inl.inj z))]
      exact seenT_at ws l ((List.mem_cons.mp h).resolve_left fun z => e z.symm)
theorem seenT_in {H : Hp} {d : Addr} {ws : List Int} {l : Int} (e : H d = some (.dK (seenT ws))) : DGet H d (.int l) (valV (seenT ws) (.inl l)) := DGet.k (k := .inl l) e
theorem seenT_put {H : Hp} {d : Addr} {ws : List Int} {l : Int} (e : H d = some (.dK (seenT ws))) (n : l ∉ ws) (hl : ws.length < 1000) : DPut H d (.int l) (.bl true) (upd H d (.dK (seenT (ws ++ [l])))) := by
  have := DPut.k (v := .bl true) (k := .inl l) e (by rw [seenT_len, sizeLine_eq]; omega)
  rwa [putK_new _ (seenT_no ws l n), ← seenT_snoc] at this
end Dw
namespace Dw
open PySem PySem.Spec PyProof.Rows L2 SX
theorem BfsI.clos {ex : Bool} {cs : List Int} {r0 : Int} {U ls : List (Option Int)} {T : List (List Nat)} (bf : BfsI (gN ex (wts cs)) U (2 ^ cs.length) (some r0) ls T) (al : T.length = ls.length) : ClosN ex cs r0 ls := ⟨List.mem_of_getElem? bf.hd, fun l hl j hj => by
  obtain ⟨i, hi⟩ := List.mem_iff_getElem?.mp hl
  have hil := (List.getElem?_eq_some_iff.mp hi).1
  obtain ⟨r, hr⟩ : ∃ r, T[i]? = some r := ⟨_, List.getElem?_eq_getElem (by omega)⟩
  obtain ⟨hrl, l', hl', hrow⟩ := bf.rows i r hr
  rw [hi] at hl'
  cases hl'
  obtain ⟨x, hx⟩ : ∃ x, r[j]? = some x := ⟨_, List.getElem?_eq_getElem (by omega)⟩
  exact List.mem_of_getElem? (hrow j x hx)⟩
/-- the labels found are as many as were counted -/
theorem CntOk.len {ex : Bool} {cs : List Int} {r0 : Int} {W U ls : List (Option Int)} {T : List (List Nat)} (h : CntOk ex cs r0 W) (bf : BfsI (gN ex (wts cs)) U (2 ^ cs.length) (some r0) ls T) (al : T.length = ls.length) : W.length ≤ ls.length := nodup_le h.nd (h.rch ls (bf.clos al))
end Dw
namespace K41
open PySem PySem.Spec PyProof.Rows L2 SX Dw
def topS (i : Nat) : Stmt := PySem.Challenge.pw_digitwise_k41_linear_limits.main.body.getD i (.Pass ⟨0, 0, 0, 0⟩)
abbrev s__wall : Stmt := topS 0
abbrev N__wall : List Str := ["k"]
theorem sc__wall : FnScope N__wall ["k"] (C8.fnScope s__wall) := C8.fnScope_by (by decide +kernel)
abbrev s_letters : Stmt := topS 2
abbrev N_letters : List Str := ["width"]
theorem sc_letters : FnScope N_letters ["width"] (C8.fnScope s_letters) := C8.fnScope_by (by decide +kernel)
abbrev s_digit : Stmt := topS 3
abbrev N_digit : List Str := ["letter", "track"]
theorem sc_digit : FnScope N_digit ["letter", "track"] (C8.fnScope s_digit) := C8.fnScope_by (by decide +kernel)
abbrev s_is_table : Stmt := topS 12
abbrev N_is_table : List Str := ["table", "length", "row", "successor"]
theorem sc_is_table : FnScope N_is_table ["table", "length"] (C8.fnScope s_is_table) := C8.fnScope_by (by decide +kernel)
abbrev s_is_state : Stmt := topS 13
abbrev N_is_state : List Str := ["value", "size"]
theorem sc_is_state : FnScope N_is_state ["value", "size"] (C8.fnScope s_is_state) := C8.fnScope_by (by decide +kernel)
abbrev s_check_width : Stmt := topS 14
abbrev N_check_width : List Str := ["width"]
theorem sc_check_width : FnScope N_check_width ["width"] (C8.fnScope s_check_width) := C8.fnScope_by (by decide +kernel)
abbrev s_reached : Stmt := topS 16
abbrev N_reached : List Str := ["start", "width", "follow", "found", "numbers", "table", "label", "row", "letter", "behind"]
theorem sc_reached : FnScope N_reached ["start", "width", "follow"] (C8.fnScope s_reached) := C8.fnScope_by (by decide +kernel)
abbrev s_equation : Stmt := topS 18
abbrev N_equation : List Str := ["coefficients", "constant"]
theorem sc_equation : FnScope N_equation ["coefficients", "constant"] (C8.fnScope s_equation) := C8.fnScope_by (by decide +kernel)
abbrev s_at_most : Stmt := topS 19
abbrev N_at_most : List Str := ["coefficients", "constant"]
theorem sc_at_most : FnScope N_at_most ["coefficients", "constant"] (C8.fnScope s_at_most) := C8.fnScope_by (by decide +kernel)
abbrev s_labelled : Stmt := topS 20
abbrev N_labelled : List Str := ["kind", "coefficients", "constant", "width", "follow", "labels", "table", "sums", "label"]
theorem sc_labelled : FnScope N_labelled ["kind", "coefficients", "constant"] (C8.fnScope s_labelled) := C8.fnScope_by (by decide +kernel)
abbrev s_weights : Stmt := topS 21
abbrev N_weights : List Str := ["coefficients", "letter", "track", "coefficient"]
theorem sc_weights : FnScope N_weights ["coefficients"] (C8.fnScope s_weights) := C8.fnScope_by (by decide +kernel)
abbrev s_label_behind : Stmt := topS 22
abbrev N_label_behind : List Str := ["kind", "label", "weight"]
theorem sc_label_behind : FnScope N_label_behind ["kind", "label", "weight"] (C8.fnScope s_label_behind) := C8.fnScope_by (by decide +kernel)
abbrev s_is_accepting : Stmt := topS 23
abbrev N_is_accepting : List Str := ["kind", "label"]
theorem sc_is_accepting : FnScope N_is_accepting ["kind", "label"] (C8.fnScope s_is_accepting) := C8.fnScope_by (by decide +kernel)
abbrev s__law_wide : Stmt := topS 25
abbrev N__law_wide : List Str := ["script", "k", "cell", "mixed"]
theorem sc__law_wide : FnScope N__law_wide ["script", "k"] (C8.fnScope s__law_wide) := C8.fnScope_by (by decide +kernel)
abbrev s__law_take : Stmt := topS 26
abbrev N__law_take : List Str := ["pool", "most", "taken"]
theorem sc__law_take : FnScope N__law_take ["pool", "most"] (C8.fnScope s__law_take) := C8.fnScope_by (by decide +kernel)
abbrev s__law_pool : Stmt := topS 27
abbrev N__law_pool : List Str := ["script"]
theorem sc__law_pool : FnScope N__law_pool ["script"] (C8.fnScope s__law_pool) := C8.fnScope_by (by decide +kernel)
abbrev s__law_sums : Stmt := topS 28
abbrev N__law_sums : List Str := ["coefficients", "sums", "coefficient", "total"]
theorem sc__law_sums : FnScope N__law_sums ["coefficients"] (C8.fnScope s__law_sums) := C8.fnScope_by (by decide +kernel)
abbrev s__law_count : Stmt := topS 29
abbrev N__law_count : List Str := ["coefficients", "constant", "exact", "sums", "seen", "waiting", "dead", "turn", "total", "rest"]
theorem sc__law_count : FnScope N__law_count ["coefficients", "constant", "exact"] (C8.fnScope s__law_count) := C8.fnScope_by (by decide +kernel)
abbrev s__law_made : Stmt := topS 30
abbrev N__law_made : List Str := ["coefficients", "constant", "exact", "told", "e"]
theorem sc__law_made : FnScope N__law_made ["coefficients", "constant", "exact"] (C8.fnScope s__law_made) := C8.fnScope_by (by decide +kernel)
abbrev s_law : Stmt := topS 31
abbrev N_law : List Str := ["script", "pool", "coefficients", "first", "constant", "exact", "count", "made", "k"]
theorem sc_law : FnScope N_law ["script"] (C8.fnScope s_law) := C8.fnScope_by (by decide +kernel)
abbrev s_Machine___init__ : Stmt := (C8.clsBody (topS 11)).getD 0 (.Pass ⟨0, 0, 0, 0⟩)
abbrev N_Machine___init__ : List Str := ["self", "width", "table", "accepting", "state", "row"]
theorem sc_Machine___init__ : FnScope N_Machine___init__ ["self", "width", "table", "accepting"] (C8.fnScope s_Machine___init__) := C8.fnScope_by (by decide +kernel)
abbrev s_labelled_follow : Stmt := (C8.fnBody s_labelled).getD 3 (.Pass ⟨0, 0, 0, 0⟩)
abbrev N_labelled_follow : List Str := ["label", "letter", "kind", "sums"]
theorem sc_labelled_follow : NdefX.NScope N_labelled_follow ["label", "letter"] ["kind", "sums"] (C8.fnScope s_labelled_follow) := NdefX.nscope_by (by decide +kernel)
local macro_rules | `(tactic| walk_at "rd") => `(tactic| simp only [tSeq, tNext, tAsg, gName, tRet, tRetN, tIfS, tDrop, tVar, tC, tOp, tUn, tTest, tCB, tCons, tNil, tB, tAnd, tOr, tNot, tAndV, tOrV, tNotV, tIf, tCall, tTup, tLst, tSl, tPart, tNoPart, tM0, tM1, tBM, tChain, tBreak, tCont, tNever, tAug, ipI, tPar, tyV_str,
  tFor_eq, tDispN, tNNot, tNGet, rNSet, tLc_eq, tYes, wipe, Int.zero_add, gNil, gCons, gTup, gSub, iRng1, iRng2, iList, iTup, iStr, rI0, rI, rU, rEq, rNe, rIxL, rIxT, rIxS, Dw.rLen, rListOf, rTupOf, rNotB, rIsB, rMulS, rIn, rCat, rAppend, rCatA, C8.rSlX, tDGet, tFd, tFs, tMeth, tMake, tMkO, tCb, tDisp1T, tCallG, NdefX.tNdefM, NdefX.startF, nc_w, rKNo, nc_K, nc_prog, tLstRg, tRg1, tMakeS, Dw.tMethS, tCallS, WE, tProp, rMin, rMax, rRepA, rRep, rSlL, rAll, tCKw, tBits, rSum, rMaxDf, iEnum, Int.toNat_natCast, tDGet2, tDIn, tDNotIn, rAll, tBM0, rPop, rExtend, tDNewK, tDisp, tPairs, L2.start, cxOf_K, cxOf_w, cxOf_prog,
  List.map_cons, List.map_nil, List.length_cons, List.length_nil, List.replicate, List.cons_append, List.nil_append, Nat.reduceAdd, Nat.reduceSub, Nat.zero_add, List.append_nil,
  List.set_cons_zero, List.set_cons_succ, List.getElem?_cons_zero, List.getElem?_cons_succ, Option.some.injEq, V.int.injEq, V.bl.injEq, V.ref.injEq, V.str.injEq, V.ty.injEq, List.cons.injEq, and_true, true_and, reduceCtorEq, false_and, exists_false, or_false, false_or, exists_eq_left, exists_eq_left', exists_eq', sw_S, an_S, exists_and_left, exists_const, exists_eq, decide_eq_true_eq, Bool.false_eq_true, if_true, if_false, Bool.not_eq_true', decide_eq_false_iff_not, Bool.not_true, Bool.not_false, ite_not, scal, and_false])
local macro_rules | `(tactic| walk_at "ne") => `(tactic| first
  | assumption
  | exact Ne.symm (by assumption)
  | exact Pool.ne (by assumption) (by assumption)
  | exact Ne.symm (Pool.ne (by assumption) (by assumption))
  | (refine ne_of_none ?_ (by assumption); walk_at "hp")
  | (refine Ne.symm (ne_of_none ?_ (by assumption)); walk_at "hp"))
local macro_rules | `(tactic| walk_at "hp") => `(tactic| first
  | assumption
  | exact upd_same
  | (refine Eq.trans (upd_ne (by walk_at "ne")) ?_; walk_at "hp")
  | (refine Same.get (by assumption) ?_; walk_at "hp")
  | (refine But.get (by assumption) (by walk_at "ne") ?_; walk_at "hp"))
section
variable {P : Program} {w : World} {K : PySem.W.Frag} {mg : Str → Option Value} {base : Heap}
def sp_wide (K : PySem.W.Frag) : Sp := fun vs H Q _ => ∃ (q : Addr) (ns : List Int) (k : Int), vs = [.ref q, .int k] ∧ SqL K H q (ns.map V.int) ∧ 0 ≤ k ∧ ∀ r : Int, 0 ≤ r → Q (.int r) H
theorem c__law_wide {f : Addr} {fd : FuncData} (D : C8.Def K mg "_law_wide" s__law_wide f fd) (b : Binds K fd ["script", "k"] []) (z_len : mg "len" = none) (z_abs : mg "abs" = none) (z_int : mg "int" = none) : C8.Cal P w K mg base 1 "_law_wide" (sp_wide K) [] := by
  refine C8.cal0 D b .nil sc__law_wide (fun vs H Q E h => ?_) (fun cdv A outer s H vs Q E hr h => ?_)
  · obtain ⟨_, _, _, rfl, _⟩ := h
    rfl
  · obtain ⟨q, ns, k, rfl, hS, hk, ok⟩ := h
    refine ⟨_, (pss_cons (ps_set (i := 2) sc__law_wide.nd rfl (by first | exact Or.inl rfl | exact Or.inr rfl) pe_int) (C8.pss_cut (ps_if (pt_cmpR (op_lt) (pv 1) (pe_callB (lenS K) (by rfl) z_len PySem.boot_len (pa_cons (pv 0) pa_nil)) (nomark _)) (pss_one (ps_set (i := 2) sc__law_wide.nd rfl (by first | exact Or.inl rfl | exact Or.inr rfl) (pe_callB call_abs (by rfl) z_abs (by decide +kernel) (pa_cons (pe_ix (ixL K) (pv 0) (pv 1) (fun _ _ => rfl)) pa_nil)))) pss_nil) (pss_cons (ps_if (pt_cmpR (op_ge) (pv 2) pe_int (nomark _)) (pss_one (ps_ret (pv 2))) pss_nil) (pss_cons (ps_set (i := 3) sc__law_wide.nd rfl (by first | exact Or.inl rfl | exact Or.inr rfl) (pe_op op_mod (pe_callTy call_int1 (by rfl) z_int (by decide +kernel) (pa_cons (pe_op op_add (pe_op op_mul (pe_op op_add (pv 2) pe_int) pe_int) (pe_op op_mul (pe_op op_add (pv 1) pe_int) pe_int)) pa_nil)) pe_int)) (pss_one (ps_ret (pe_op op_mod (pe_callTy call_int1 (by rfl) z_int (by decide +kernel) (pa_cons (pe_op op_add (pe_op op_mul (pv 3) pe_int) (pe_op op_fdiv (pv 3) pe_int)) pa_nil)) pe_int))))))), ?_⟩
    walk_at "rd"
    obtain ⟨M, hM⟩ : ∃ M : L2.St → Hp → Prop, M = fun σ' H' => ∃ c : Int, 0 ≤ c ∧ σ' = [some (.ref q), some (.int k), some (.int c), none] ∧ H' = H := ⟨_, rfl⟩
    refine ⟨M, ?_, fun σ' H' hm => ?_⟩
    · walk_at "rd"
      refine ⟨_, .inl hS, ite2 (fun h1 => ?_) (fun h1 => ?_)⟩
      · rw [List.length_map] at h1
        refine ⟨_, hS, .int (ns.getD k.toNat 0), at_ints hk h1, ns.getD k.toNat 0, rfl, ?_⟩
        rw [hM]
        exact ⟨_, by split <;> omega, rfl, rfl⟩
      · rw [hM]
        exact ⟨0, Int.le_refl 0, rfl, rfl⟩
    · rw [hM] at hm
      obtain ⟨c, hc, rfl, rfl⟩ := hm
      walk_at "rd"
      refine ite2 (fun _ => ok c hc) (fun _ => ⟨.inr ⟨by decide, by decide⟩, .inr ⟨by decide, by decide⟩, by decide, .inr ⟨by decide, by decide⟩, ⟨by decide, by decide⟩, by decide, ok _ ?_⟩)
      exact Int.emod_nonneg _ (by decide)

def sp_take : Sp := fun vs H Q _ => ∃ (p q : Addr) (ns : List Int) (m : Int), vs = [.ref p, .int m] ∧ Pool H p q ns ∧ 0 < m ∧ m < 1073741824 ∧ ∀ (r : Int) H', 0 ≤ r → r < m → But p H H' → Pool H' p q ns → Q (.int r) H'
theorem c__law_take {f : Addr} {fd : FuncData} (D : C8.Def K mg "_law_take" s__law_take f fd) (b : Binds K fd ["pool", "most"] []) (z_int : mg "int" = none) (c__law_wide : C8.Cal P w K mg base 1 "_law_wide" (sp_wide K) []) : C8.Cal P w K mg base 2 "_law_take" sp_take [] := by
  refine C8.cal0 D b .nil sc__law_take (fun vs H Q E h => ?_) (fun cdv A outer s H vs Q E hr h => ?_)
  · obtain ⟨_, _, _, _, rfl, _⟩ := h
    rfl
  · obtain ⟨p, q, ns, m, rfl, ⟨hne, hq, a, k, hp, ha, hk⟩, hm0, hm1, ok⟩ := h
    refine ⟨_, (C8.pss_cut (ps_if (pt_cmpR (op_lt) (pe_ix (ixL K) (pv 0) pe_int (fun _ _ => rfl)) pe_int (nomark _)) (pss_cons (ps_asg (pe_op op_add (pe_ix (ixL K) (pv 0) pe_int (fun _ _ => rfl)) pe_int) (pg_sub (pv 0) pe_int set_list)) (pss_one (ps_asg (C8.pe_c c__law_wide hr (by decide) (by rfl) (pa_cons (pe_ix (ixL K) (pv 0) pe_int (fun _ _ => rfl)) (pa_cons (pe_ix (ixL K) (pv 0) pe_int (fun _ _ => rfl)) pa_nil))) (pg_sub (pv 0) pe_int set_list)))) pss_nil) (pss_cons (ps_set (i := 2) sc__law_take.nd rfl (by first | exact Or.inl rfl | exact Or.inr rfl) (pe_op op_mod (pe_callTy call_int1 (by rfl) z_int (by decide +kernel) (pa_cons (pe_ix (ixL K) (pv 0) pe_int (fun _ _ => rfl)) pa_nil)) (pv 1))) (pss_cons (ps_asg (pe_op op_fdiv (pe_ix (ixL K) (pv 0) pe_int (fun _ _ => rfl)) (pv 1)) (pg_sub (pv 0) pe_int set_list)) (pss_one (ps_ret (pv 2)))))), ?_⟩
    walk_at "rd"
    obtain ⟨M, hM⟩ : ∃ M : L2.St → Hp → Prop, M = fun σ' H' => But p H H' ∧ (∃ a k : Int, H' p = some (.lst [.int a, .ref q, .int k]) ∧ 0 ≤ a ∧ -1 ≤ k) ∧ σ' = [some (.ref p), some (.int m), none] := ⟨_, rfl⟩
    refine ⟨M, ?_, fun σ' H' hm => ?_⟩
    · walk_at "rd"
      refine ⟨_, SqL.of hp, _, rfl, ?_⟩
      walk_at "rd"
      refine ite2 (fun h1 => ?_) (fun h1 => ?_)
      · refine ⟨_, SqL.of hp, _, rfl, ?_⟩
        walk_at "rd"
        refine ⟨_, _, _, _, rfl, rfl, hp, rfl, ?_⟩
        refine ⟨_, SqL.of upd_same, _, rfl, _, SqL.of upd_same, _, rfl, ?_⟩
        have e2 : (upd H p (.lst ([V.int a, V.ref q, V.int k].set 2 (V.int (k + 1))))) q = some (.lst (ns.map V.int)) := by
          rw [upd_ne hne.symm]
          exact hq
        refine ⟨q, ns, k + 1, rfl, SqL.of e2, by omega, fun r hr0 => ?_⟩
        refine ⟨_, _, _, _, rfl, rfl, upd_same, rfl, ?_⟩
        rw [hM]
        exact ⟨But.upd.trans But.upd, ⟨r, k + 1, upd_same, hr0, by omega⟩, rfl⟩
      · rw [hM]
        exact ⟨But.refl _ _, ⟨a, k, hp, ha, hk⟩, rfl⟩
    · rw [hM] at hm
      obtain ⟨hB, ⟨a1, k1, hp1, ha1, hk1⟩, rfl⟩ := hm
      walk_at "rd"
      refine ⟨_, SqL.of hp1, _, rfl, ?_⟩
      walk_at "rd"
      refine ⟨hm0, _, SqL.of hp1, _, rfl, ?_⟩
      walk_at "rd"
      refine ⟨⟨hm0, hm1⟩, _, _, _, _, rfl, rfl, hp1, rfl, ?_⟩
      refine ok _ _ (Int.emod_nonneg _ (by omega)) (Int.emod_lt_of_pos _ hm0) (hB.trans But.upd) ⟨hne, ?_, a1 / m, k1, upd_same, Int.ediv_nonneg ha1 (by omega), hk1⟩
      rw [upd_ne hne.symm]
      exact hB _ _ hne.symm hq

def sp_pool (K : PySem.W.Frag) : Sp := fun vs H Q _ => ∃ (a : Addr) (ns : List Int), vs = [.ref a] ∧ SqL K H a (ns.map V.int) ∧ ∀ p q H', Same H H' → H p = none → H q = none → Pool H' p q ns → Q (.ref p) H'
theorem c__law_pool {f : Addr} {fd : FuncData} (D : C8.Def K mg "_law_pool" s__law_pool f fd) (b : Binds K fd ["script"] []) (z_list : mg "list" = none) : C8.Cal P w K mg base 1 "_law_pool" (sp_pool K) [] := by
  refine C8.cal0 D b .nil sc__law_pool (fun vs H Q E h => ?_) (fun cdv A outer s H vs Q E hr h => ?_)
  · obtain ⟨_, _, rfl, _⟩ := h
    rfl
  · obtain ⟨a, ns, rfl, hS, ok⟩ := h
    refine ⟨_, (pss_one (ps_ret (pe_lst (pa_cons pe_int (pa_cons (pe_callTy (listOf K) (by rfl) z_list (by decide +kernel) (pa_cons (pv 0) pa_nil)) (pa_cons (pe_un un_neg pe_int) pa_nil)))))), ?_⟩
    walk_at "rd"
    refine ⟨_, .inl hS, fun q hq => ⟨by show 3 ≤ sizeLine; decide, fun p hp => ?_⟩⟩
    have hne : p ≠ q := fun e => by
      subst e
      rw [upd_same] at hp
      cases hp
    have hp0 : H p = none := by
      rw [upd_ne hne] at hp
      exact hp
    refine ok p q _ ((same_upd hq).trans (same_upd hp)) hp0 hq ⟨hne, ?_, 0, -1, upd_same, by decide, by decide⟩
    rw [upd_ne hne.symm, upd_same]
def sp_letters : Sp := fun vs H Q _ => ∃ n : Nat, vs = [nv n] ∧ n ≤ 1000 ∧ Q (nv (2 ^ n)) H
theorem c_letters {f : Addr} {fd : FuncData} (D : C8.Def K mg "letters" s_letters f fd) (b : Binds K fd ["width"] [])  : C8.Cal P w K mg base 1 "letters" sp_letters [] := by
  refine C8.cal0 D b .nil sc_letters (fun vs H Q E h => ?_) (fun cdv A outer s H vs Q E hr h => ?_)
  · obtain ⟨_, rfl, _⟩ := h
    rfl
  · obtain ⟨n, rfl, hn, ok⟩ := h
    refine ⟨_, (pss_one (ps_ret (pe_op op_shlW pe_int (pv 0)))), ?_⟩
    walk_at "rd"
    refine ⟨shlN (n := 1) (b := 1) (by decide) (by omega), ?_⟩
    rw [i_one]
    exact ok
def sp_digit : Sp := fun vs H Q _ => ∃ n k : Nat, vs = [nv n, nv k] ∧ Q (nv (n / 2 ^ k % 2)) H
theorem c_digit {f : Addr} {fd : FuncData} (D : C8.Def K mg "digit" s_digit f fd) (b : Binds K fd ["letter", "track"] [])  : C8.Cal P w K mg base 1 "digit" sp_digit [] := by
  refine C8.cal0 D b .nil sc_digit (fun vs H Q E h => ?_) (fun cdv A outer s H vs Q E hr h => ?_)
  · obtain ⟨_, _, rfl, _⟩ := h
    rfl
  · obtain ⟨n, k, rfl, ok⟩ := h
    refine ⟨_, (pss_one (ps_ret (pe_op op_and (pe_op op_shr (pv 0) (pv 1)) pe_int))), ?_⟩
    walk_at "rd"
    refine ⟨Int.natCast_nonneg _, ?_⟩
    rw [i_dig]
    exact ok
def sp_is_state : Sp := fun vs H Q _ => ∃ (i : Int) (n : Nat), vs = [.int i, nv n] ∧ Q (.bl (decide (0 ≤ i) && decide (i < (n : Int)))) H
theorem c_is_state {f : Addr} {fd : FuncData} (D : C8.Def K mg "is_state" s_is_state f fd) (b : Binds K fd ["value", "size"] []) (z_isinstance : mg "isinstance" = none) (z_int : mg "int" = none) (z_bool : mg "bool" = none) : C8.Cal P w K mg base 1 "is_state" sp_is_state [] := by
  refine C8.cal0 D b .nil sc_is_state (fun vs H Q E h => ?_) (fun cdv A outer s H vs Q E hr h => ?_)
  · obtain ⟨_, _, rfl, _⟩ := h
    rfl
  · obtain ⟨i, n, rfl, ok⟩ := h
    refine ⟨_, (pss_one (ps_ret (pe_and (pe_callB (isiK K) (by rfl) z_isinstance (by decide +kernel) (pa_cons (pv 0) (pa_cons (pe_bltn (by rfl) z_int (by decide +kernel) (v := .ty "int") rfl) pa_nil))) (pe_and (pe_not (pe_callB (isiK K) (by rfl) z_isinstance (by decide +kernel) (pa_cons (pv 0) (pa_cons (pe_bltn (by rfl) z_bool (by decide +kernel) (v := .ty "bool") rfl) pa_nil)))) (pe_one (pe_chain op_le op_lt pe_int (pv 0) (pv 1))))))), ?_⟩
    walk_at "rd"
    refine isi_of (.base (.int i)) (kit_ty (by decide +kernel) : _ = some true) ?_
    walk_at "rd"
    refine isi_of (.base (.int i)) (kit_ty (by decide +kernel) : _ = some false) ?_
    walk_at "rd"
    by_cases h : 0 ≤ i
    · rw [if_pos h]
      rw [decide_eq_true h, Bool.true_and] at ok
      exact ok
    · rw [if_neg h]
      rw [decide_eq_false h, Bool.false_and] at ok
      exact ok
def sp_is_table : Sp := fun vs H Q _ => ∃ (t : Addr) (rs : List Addr) (T : List (List Int)) (l : Nat), vs = [.ref t, nv l] ∧ H t = some (.lst (rs.map V.ref)) ∧ RowsAt H rs T ∧ T.length ≤ 500 ∧ (∀ r ∈ T, r.length ≤ 500) ∧ ∀ H', Same H H' → Q (.bl (goodT T l)) H'
theorem c_is_table {f : Addr} {fd : FuncData} (D : C8.Def K mg "is_table" s_is_table f fd) (b : Binds K fd ["table", "length"] []) (c_is_state : C8.Cal P w K mg base 1 "is_state" sp_is_state []) (z_len : mg "len" = none) (z_all : mg "all" = none) : C8.Cal P w K mg base 2 "is_table" sp_is_table [] := by
  refine C8.cal0 D b .nil sc_is_table (fun vs H Q E h => ?_) (fun cdv A outer s H vs Q E hr h => ?_)
  · obtain ⟨_, _, _, _, rfl, _⟩ := h
    rfl
  · obtain ⟨t, rs, T, l, rfl, ht, hr1, hn, hrn, ok⟩ := h
    refine ⟨_, (pss_cons (ps_for PassesOwn.never rfl (piL K (pv 0)) (pg_name (i := 2) sc_is_table.nd rfl (by first | exact Or.inl rfl | exact Or.inr rfl)) (pss_one (ps_if (PW.pt (pw_or (pt_cmpR (op_ne) (pe_callB (lenS K) (by rfl) z_len PySem.boot_len (pa_cons (pv 2) pa_nil)) (pv 1) (nomark _)) (pw_or1 (pt_not (pt_val (pe_callB (allQ K) (by rfl) z_all (by decide +kernel) (pa_cons (pe_lc (own := [("successor", 3)]) (g := (gName 3)) (tt := tYes) rfl sc_is_table.nd (piL K (pv 2)) (blkOk_by (N := N_is_table) (sc := C8.fnScope s_is_table) (by decide +kernel)) (fun _ _ _ _ _ => (pg_name (i := 3) sc_is_table.nd rfl (by first | exact Or.inl rfl | exact Or.inr rfl))) (fun _ _ _ _ _ => pts_nil) (fun _ _ _ _ _ => (C8.pe_c c_is_state hr (by decide) (by rfl) (pa_cons (pv 3) (pa_cons (pe_callB (lenS K) (by rfl) z_len PySem.boot_len (pa_cons (pv 0) pa_nil)) pa_nil))))) pa_nil))))))) (pss_one (ps_ret pe_bl)) pss_nil))) (pss_one (ps_ret pe_bl))), ?_⟩
    walk_at "rd"
    refine ⟨⟨_, SqL.of ht⟩, for_listN (xs := rs.map V.ref) (fun i σ H2 => (∃ o, σ = [some (.ref t), some (nv l), o, none]) ∧ Same H H2 ∧ (T.take i).all (goodRow T.length l) = true) ?_ ?_ ?_ ?_⟩
    · exact ⟨⟨none, rfl⟩, Same.refl _, rfl⟩
    · rintro i σ H2 _ ⟨_, s2, _⟩
      exact SqL.of (s2 _ _ ht)
    · rintro i x σ H2 N hx ⟨⟨o, rfl⟩, s2, hg⟩ hN
      rw [List.getElem?_map] at hx
      obtain ⟨a, ha, rfl⟩ := Option.map_eq_some_iff.mp hx
      have hi : i < T.length := by rw [← hr1.len]; exact (List.getElem?_eq_some_iff.mp ha).1
      have hT : T[i]? = some T[i] := List.getElem?_eq_getElem hi
      obtain ⟨r, hr0⟩ : ∃ r, r = T[i] := ⟨_, rfl⟩
      rw [← hr0] at hT
      have hrow := s2 _ _ (hr1.at_ i a r ha hT)
      have hrl := hrn r (List.mem_of_getElem? hT)
      have htk : (T.take (i + 1)).all (goodRow T.length l) = goodRow T.length l r := by
        rw [List.take_add_one, hT, List.all_append, hg]
        simp
      have bad : goodRow T.length l r = false → goodT T l = false := fun e => by
        unfold goodT
        rw [List.all_eq_false]
        exact ⟨r, List.mem_of_getElem? hT, by rw [e]; decide⟩
      walk_at "rd"
      refine ⟨_, .inl (SqL.of hrow), ?_⟩
      rw [List.length_map]
      by_cases hl : r.length = l
      · rw [if_pos (by omega)]
        refine ⟨⟨_, SqL.of hrow⟩, fun D hD => ?_⟩
        refine lc_map (walk_list (xs := r.map V.int)) (fun j => .bl (decide (0 ≤ r.getD j 0) && decide (r.getD j 0 < (T.length : Int)))) (by rw [List.length_map]; omega) hD (fun H5 s5 => s5.seq (SqL.of hrow)) ?_ ?_
        · rintro j x H5 H6 N2 hj s5 ⟨rfl, ez⟩ hN2
          rw [List.length_map] at hj
          rw [List.getElem?_map, List.getElem?_eq_getElem hj] at ez
          cases ez
          walk_at "rd"
          refine ⟨_, .inl (SqL.of ((s2.trans s5) _ _ ht)), r[j], T.length, ?_, ?_⟩
          · rw [List.length_map, hr1.len]
          · have h := hN2 _ (Same.refl _)
            rw [List.getD_eq_getElem?_getD, List.getElem?_eq_getElem hj] at h
            exact h
        · intro H5 s5 h5
          have e2 : (List.range r.length).map (fun j => V.bl (decide (0 ≤ r.getD j 0) && decide (r.getD j 0 < (T.length : Int)))) = (r.map fun x => decide (0 ≤ x) && decide (x < (T.length : Int))).map V.bl := by
            refine List.ext_getElem (by simp) fun j p q => ?_
            have hj : j < r.length := by simpa using p
            simp only [List.getElem_map, List.getElem_range]
            rw [List.getD_eq_getElem?_getD, List.getElem?_eq_getElem hj]
            rfl
          rw [List.length_map, e2] at h5
          refine ⟨_, SqL.of h5, ?_⟩
          have e3 : (r.map fun x => decide (0 ≤ x) && decide (x < (T.length : Int))).all id = goodRow T.length l r := by
            unfold goodRow
            rw [List.all_map, decide_eq_true hl, Bool.true_and]
            rfl
          rw [e3]
          cases hb : goodRow T.length l r with
          | true =>
            exact hN _ _ ⟨⟨_, rfl⟩, s2.trans s5, by rw [htk, hb]⟩
          | false =>
            have h := ok _ (s2.trans s5)
            rw [bad hb] at h
            exact h
      · rw [if_neg (by omega)]
        have h := ok _ s2
        rw [bad (by unfold goodRow; rw [decide_eq_false hl, Bool.false_and])] at h
        exact h
    · rintro σ H2 ⟨⟨o, rfl⟩, s2, hg⟩
      walk_at "rd"
      rw [List.length_map, hr1.len, List.take_length] at hg
      have h := ok _ s2
      unfold goodT at h
      rw [hg] at h
      exact h
def sp_check_width : Sp := fun vs H Q _ => ∃ w : Nat, vs = [nv w] ∧ w ≤ 6 ∧ Q .non H
theorem c_check_width {f : Addr} {fd : FuncData} (D : C8.Def K mg "check_width" s_check_width f fd) (b : Binds K fd ["width"] []) (g_TRACKS : ∃ u, mg "TRACKS" = some u ∧ RelV (.int 6) u) : C8.Cal P w K mg base 1 "check_width" sp_check_width [] := by
  refine C8.cal0 D b .nil sc_check_width (fun vs H Q E h => ?_) (fun cdv A outer s H vs Q E hr h => ?_)
  · obtain ⟨_, rfl, _⟩ := h
    rfl
  · obtain ⟨w, rfl, hw, ok⟩ := h
    refine ⟨_, (pss_one (ps_if (pt_not (pt_chain op_le op_le pe_int (pv 0) (C8.pe_gc (by rfl) g_TRACKS))) (pss_one ps_never) pss_nil)), ?_⟩
    walk_at "rd"
    rw [if_pos (by omega), if_pos (by omega)]
    exact ok
def sp_minit (C : Addr) : Sp := fun vs H Q _ => ∃ (m dx t a : Addr) (rs : List Addr) (w : Nat) (T : List (List Int)) (acc : List Bool), vs = [.ref m, nv w, .ref t, .ref a] ∧ H m = some (.ins C dx []) ∧ H t = some (.lst (rs.map V.ref)) ∧ RowsAt H rs T ∧ H a = some (.lst (acc.map V.bl)) ∧ MOk w T acc ∧
  ∀ H', But m H H' → MachNew C H H' m w T acc → Q .non H'
theorem k_Machine {f : Addr} {fd : FuncData} {CM : Addr} (M : Mk K CM f) (hm : mg "Machine" = some (.ref CM)) (c_M : Cls K CM) (F : C8.Fun K "__init__" "Machine.__init__" s_Machine___init__ f fd) (b : Binds K fd ["self", "width", "table", "accepting"] []) (n_width : NoAttr K CM "width") (n_table : NoAttr K CM "table") (n_accepting : NoAttr K CM "accepting") (c_check_width : C8.Cal P w K mg base 1 "check_width" sp_check_width []) (c_is_table : C8.Cal P w K mg base 2 "is_table" sp_is_table []) (c_letters : C8.Cal P w K mg base 1 "letters" sp_letters []) (z_len : mg "len" = none) (z_enumerate : mg "enumerate" = none) (z_list : mg "list" = none) (g_STATES : ∃ u, mg "STATES" = some u ∧ RelV (.int 400) u) : C8.Mak P w K mg base 3 "Machine" CM (sp_minit CM) [] := by
  refine C8.mak0 M hm F b .nil sc_Machine___init__ (fun vs H Q E h => ?_) (fun cdv A outer s H vs Q E hr h => ?_)
  · obtain ⟨_, _, _, _, _, _, _, _, rfl, _⟩ := h
    rfl
  · obtain ⟨m, dx, t, a, rs, w, T, acc, rfl, hm, ht, hr1, ha, ok0, ok⟩ := h
    refine ⟨_, (pss_cons (ps_expr (C8.pe_c c_check_width hr (by decide) (by rfl) (pa_cons (pv 1) pa_nil))) (pss_cons (ps_if (pt_cmpR (op_gt) (pe_callB (lenS K) (by rfl) z_len PySem.boot_len (pa_cons (pv 2) pa_nil)) (C8.pe_gc (by rfl) g_STATES) (nomark _)) (pss_one ps_never) pss_nil) (pss_cons (ps_if (PW.pt (pw_or (pt_cmpR (op_eq) (pe_callB (lenS K) (by rfl) z_len PySem.boot_len (pa_cons (pv 2) pa_nil)) pe_int (nomark _)) (pw_or (pt_cmpR (op_ne) (pe_callB (lenS K) (by rfl) z_len PySem.boot_len (pa_cons (pv 3) pa_nil)) (pe_callB (lenS K) (by rfl) z_len PySem.boot_len (pa_cons (pv 2) pa_nil)) (nomark _)) (pw_or1 (pt_not (pt_val (C8.pe_c c_is_table hr (by decide) (by rfl) (pa_cons (pv 2) (pa_cons (C8.pe_c c_letters hr (by decide) (by rfl) (pa_cons (pv 1) pa_nil)) pa_nil))))))))) (pss_one ps_never) pss_nil) (C8.pss_cut (ps_for PassesOwn.never rfl (piE K (by rfl) z_enumerate (pa_cons (pv 2) pa_nil)) (pg_tup (n := 2) rfl (pgs_cons (pg_name (i := 4) sc_Machine___init__.nd rfl (by first | exact Or.inl rfl | exact Or.inr rfl)) (pgs_cons (pg_name (i := 5) sc_Machine___init__.nd rfl (by first | exact Or.inl rfl | exact Or.inr rfl)) pgs_nil))) (pss_one (ps_if (pt_cmpR (op_ne) (pe_ix (ixL K) (pv 3) (pv 4) (fun _ _ => rfl)) (pe_ix (ixL K) (pv 3) (pe_ix (ixL K) (pv 5) pe_int (fun _ _ => rfl)) (fun _ _ => rfl)) (nomark _)) (pss_one ps_never) pss_nil))) (pss_cons (ps_fldK K (pv 0) (pv 1) (by rfl)) (pss_cons (ps_fldK K (pv 0) (pe_lc (own := [("row", 5)]) (g := (gName 5)) (tt := tYes) rfl sc_Machine___init__.nd (piL K (pv 2)) (blkOk_by (N := N_Machine___init__) (sc := C8.fnScope s_Machine___init__) (by decide +kernel)) (fun _ _ _ _ _ => (pg_name (i := 5) sc_Machine___init__.nd rfl (by first | exact Or.inl rfl | exact Or.inr rfl))) (fun _ _ _ _ _ => pts_nil) (fun _ _ _ _ _ => (pe_callTy (listOf K) (by rfl) z_list (by decide +kernel) (pa_cons (pv 5) pa_nil)))) (by rfl)) (pss_one (ps_fldK K (pv 0) (pe_callTy (listOf K) (by rfl) z_list (by decide +kernel) (pa_cons (pv 3) pa_nil)) (by rfl))))))))), ?_⟩
    walk_at "rd"
    have hT0 : ((rs.map V.ref).length : Int) = (T.length : Int) := by rw [List.length_map, hr1.len]
    have hacc : ((acc.map V.bl).length : Int) = (T.length : Int) := by rw [List.length_map, ok0.al]
    have hpos := ok0.pos
    have hle := ok0.le
    have hrw : ∀ r ∈ T, r.length = 2 ^ w := fun r hr2 => by
      have h1 := List.all_eq_true.mp ok0.good r hr2
      unfold goodRow at h1
      rw [Bool.and_eq_true, decide_eq_true_eq] at h1
      exact h1.1
    have h64 : 2 ^ w ≤ 64 := Nat.pow_le_pow_right (by decide) ok0.w6
    refine ⟨w, rfl, ok0.w6, _, .inl (SqL.of ht), ?_⟩
    rw [hT0, if_neg (by omega)]
    refine ⟨_, .inl (SqL.of ht), ?_⟩
    rw [hT0, if_neg (by omega)]
    refine ⟨_, .inl (SqL.of ha), _, .inl (SqL.of ht), ?_⟩
    rw [hT0, hacc, if_pos rfl]
    refine ⟨w, rfl, by have := ok0.w6; omega, t, rs, T, 2 ^ w, rfl, ht, hr1, by omega, fun r hr2 => by rw [hrw r hr2]; omega, fun H1 s1 => ?_⟩
    rw [ok0.good]
    refine ⟨true, rfl, ?_⟩
    rw [if_neg (by decide)]
    refine cut_by (fun σ' H' => (∃ o1 o2, σ' = [some (V.ref m), some (nv w), some (.ref t), some (.ref a), o1, o2]) ∧ Same H1 H') (fun N hN => ?_) ?_
    · walk_at "rd"
      refine ⟨_, SqL.of (s1 _ _ ht), for_enumN (xs := rs.map V.ref) (fun i σ H2 => (∃ o1 o2, σ = [some (V.ref m), some (nv w), some (.ref t), some (.ref a), o1, o2]) ∧ Same H1 H2) ?_ ?_ ?_ ?_⟩
      · exact ⟨⟨_, _, rfl⟩, Same.refl _⟩
      · rintro i σ H2 _ ⟨_, s2⟩
        exact SqL.of (s2 _ _ (s1 _ _ ht))
      · rintro i x Tp σ H2 N2 hx ⟨⟨o1, o2, rfl⟩, s2⟩ hTp hN2
        rw [List.getElem?_map] at hx
        obtain ⟨ra, hra, rfl⟩ := Option.map_eq_some_iff.mp hx
        have hi : i < T.length := by rw [← hr1.len]; exact (List.getElem?_eq_some_iff.mp hra).1
        obtain ⟨r, er, e0, lt0⟩ := goodT_at ok0.good hi (a := 0) (Nat.two_pow_pos w)
        have s3 : Same H2 (upd H2 Tp (.tup [V.int (i : Nat), V.ref ra])) := same_upd hTp
        have sA := (s1.trans s2).trans s3
        have hrow := sA _ _ (hr1.at_ i ra r hra er)
        have haA := sA _ _ ha
        have hset := ok0.set i hi
        have hia : i < acc.length := by rw [ok0.al]; exact hi
        obtain ⟨bb, hbb⟩ : ∃ bb, acc[i]? = some bb := ⟨acc[i], List.getElem?_eq_getElem hia⟩
        walk_at "rd"
        refine ⟨_, SqT.of upd_same, rfl, _, _, rfl, _, _, rfl, rfl, _, _, rfl, SqL.of haA, .bl bb, at_map hbb, ?_⟩
        refine ⟨ra, rfl, _, SqL.of hrow, _, at_map e0, _, _, rfl, SqL.of haA, .bl bb, at_map (hset ▸ hbb), rfl, ?_⟩
        rw [if_pos rfl]
        exact hN2 _ _ ⟨⟨_, _, rfl⟩, s2.trans s3⟩
      · rintro σ H2 ⟨⟨o1, o2, rfl⟩, s2⟩
        exact hN _ _ ⟨⟨_, _, rfl⟩, s2⟩
    · rintro σ' H2 ⟨⟨o1, o2, rfl⟩, s2⟩
      walk_at "rd"
      have sA := s1.trans s2
      have hm2 := sA _ _ hm
      refine flds_of c_M n_width hm2 (by decide) ?_
      obtain ⟨H3, hH3⟩ : ∃ H3, H3 = upd H2 m (.ins CM dx (putF "width" (nv w) [])) := ⟨_, rfl⟩
      have e3 : upd H2 m (.ins CM dx (putF (Str.ofString "width") (nv w) [])) = H3 := hH3.symm
      rw [e3]
      have hm3 : H3 m = some (.ins CM dx (putF "width" (nv w) [])) := by rw [hH3, upd_same]
      have b3 : But m H2 H3 := hH3 ▸ But.upd
      have ntm : t ≠ m := ne_of ht hm (by intro z; cases z)
      have nam : a ≠ m := ne_of ha hm (by intro z; cases z)
      have ht3 := b3 _ _ ntm (sA _ _ ht)
      have nrm : ∀ r ∈ rs, r ≠ m := fun r hr2 => by
        obtain ⟨i, hi, e⟩ := List.mem_iff_getElem.mp hr2
        have hi2 : i < T.length := by rw [← hr1.len]; exact hi
        have h1 := hr1.at_ i r T[i] (by rw [List.getElem?_eq_getElem hi, e]) (List.getElem?_eq_getElem hi2)
        exact ne_of h1 hm (by intro z; cases z)
      have hr3 : RowsAt H3 rs T := (hr1.same sA).but b3 nrm
      walk_at "rd"
      refine ⟨⟨_, SqL.of ht3⟩, fun D hD => ?_⟩
      refine lc_listN (xs := rs.map V.ref) (fun i H4 => ∃ qs : List Addr, H4 D = some (.lst (qs.map V.ref)) ∧ RowsAt H4 qs (T.take i) ∧ Same H3 H4 ∧ ∀ q ∈ qs, H3 q = none ∧ q ≠ D) ?_ ?_ ?_ ?_
      · exact ⟨[], upd_same, ⟨rfl, fun i a r h _ => nomatch h⟩, same_upd hD, fun _ h => nomatch h⟩
      · rintro i H4 _ ⟨qs, _, _, s4, _⟩
        exact SqL.of (s4 _ _ ht3)
      · rintro i x H4 N2 hx ⟨qs, h4, q4, s4, n4⟩ hN2
        rw [List.getElem?_map] at hx
        obtain ⟨ra, hra, rfl⟩ := Option.map_eq_some_iff.mp hx
        have hi : i < T.length := by rw [← hr1.len]; exact (List.getElem?_eq_some_iff.mp hra).1
        have hTi : T[i]? = some T[i] := List.getElem?_eq_getElem hi
        have hrow := s4 _ _ (hr3.at_ i ra T[i] hra hTi)
        have hql : qs.length ≤ 400 := by
          have := q4.len
          rw [List.length_take] at this
          omega
        walk_at "rd"
        refine ⟨_, .inl (SqL.of hrow), fun L hL => ⟨_, (same_upd hL) _ _ h4, smallt (by rw [List.length_map]; omega), hN2 _ ⟨qs ++ [L], ?_, ?_, ?_, ?_⟩⟩⟩
        · rw [upd_same, List.map_append]
          rfl
        · have hLD : L ≠ D := (ne_of_none h4 hL).symm
          rw [List.take_add_one, hTi]
          refine RowsAt.but (RowsAt.snoc (q4.same (same_upd hL)) upd_same) But.upd fun q hq => ?_
          rcases List.mem_append.mp hq with hq | hq
          · exact (n4 q hq).2
          · rw [List.mem_singleton.mp hq]
            exact hLD
        · exact Dw.Same.new (s4.trans (same_upd hL)) hD
        · intro q hq
          rcases List.mem_append.mp hq with hq | hq
          · exact n4 q hq
          · rw [List.mem_singleton.mp hq]
            exact ⟨s4.free hL, (ne_of_none h4 hL).symm⟩
      · rintro H4 ⟨qs, h4, q4, s4, n4⟩
        rw [List.length_map, hr1.len, List.take_length] at q4
        have hm4 := s4 _ _ hm3
        refine flds_of c_M n_table hm4 (by rw [show (putF "width" (nv w) []).length = 1 from rfl]; decide) ?_
        obtain ⟨H5, hH5⟩ : ∃ H5, H5 = upd H4 m (.ins CM dx (putF "table" (.ref D) (putF "width" (nv w) []))) := ⟨_, rfl⟩
        have e5 : upd H4 m (.ins CM dx (putF (Str.ofString "table") (.ref D) (putF "width" (nv w) []))) = H5 := hH5.symm
        rw [e5]
        have hm5 : H5 m = some (.ins CM dx (putF "table" (.ref D) (putF "width" (nv w) []))) := by rw [hH5, upd_same]
        have b5 : But m H4 H5 := hH5 ▸ But.upd
        have nDm : D ≠ m := (ne_of_none hm3 hD).symm
        have nqm : ∀ q ∈ qs, q ≠ m := fun q hq => (ne_of_none hm3 (n4 q hq).1).symm
        have ha5 := b5 _ _ nam (s4 _ _ (b3 _ _ nam (sA _ _ ha)))
        walk_at "rd"
        refine ⟨_, .inl (SqL.of ha5), fun L hL => ?_⟩
        have hm6 := (same_upd (o := .lst (acc.map V.bl)) hL) _ _ hm5
        refine flds_of c_M n_accepting hm6 (by
          have : (putF "table" (.ref D) (putF "width" (nv w) [])).length = 2 := by
            show (if (("width" : Str) = "table") then _ else _ : List (Str × V)).length = 2
            rw [if_neg kwt]
            rfl
          rw [this]
          decide) ?_
        have nLm : L ≠ m := (ne_of_none hm5 hL).symm
        have b34 : But m H2 H4 := b3.trans (But.of s4)
        have bAll : But m H (upd (upd H5 L (.lst (acc.map V.bl))) m (.ins CM dx (mflds w D L))) := ((((But.of sA).trans b34).trans b5).trans (But.of (same_upd hL))).trans But.upd
        have free : ∀ q, q ≠ m → H3 q = none → H q = none := fun q nq hq => by
          cases e : H q with
          | none => rfl
          | some o =>
            have := b3 _ _ nq (sA _ _ e)
            rw [hq] at this
            cases this
        have frL : H L = none := by
          cases e : H L with
          | none => rfl
          | some o =>
            have := b5 _ _ nLm (b34 _ _ nLm (sA _ _ e))
            rw [hL] at this
            cases this
        have bE : But m H4 (upd (upd H5 L (.lst (acc.map V.bl))) m (.ins CM dx (mflds w D L))) := (b5.trans (But.of (same_upd hL))).trans But.upd
        refine ok _ bAll ⟨dx, D, L, qs, upd_same, bE _ _ nDm h4, q4.but bE nqm, ?_, free D nDm hD, frL, fun q hq => free q (nqm q hq) (n4 q hq).1⟩
        rw [upd_ne nLm, upd_same]
def sp_reachedN (COv : Addr) (mk : Addr → NdefX.NF) (g : Option Int → Nat → Option Int) (spF : Sp) : Sp := fun vs H Q E => ∃ (fA c' : Addr) (w : Nat) (l0 : Option Int) (U : List (Option Int)), vs = [lV l0, nv w, .ref fA] ∧ H fA = some (NdefX.FnO fA (mk c')) ∧ H (mk c').c = some (LamX.CodeO (mk c').c (mk c').qual) ∧ w ≤ 6 ∧ l0 ∈ U ∧ (∀ l ∈ U, ∀ j, j < 2 ^ w → g l j ∈ U) ∧ FolOkN g U (2 ^ w) spF H ∧ (∀ ls T l j ls2 row, BfsI g U (2 ^ w) l0 ls T → ls[T.length]? = some l → RowI g U ls l j ls2 row → j < 2 ^ w → ls2.length = 400 → g l j ∉ ls2 → Rz COv "limit" (.str "states") H E) ∧ ∀ p ls T H', Same H H' → ls.length ≤ 400 → RchAtN H H' g U (2 ^ w) l0 p ls T → Q (.ref p) H'
theorem cN_reached {f : Addr} {fd : FuncData} (D : C8.Def K mg "reached" s_reached f fd) (b : Binds K fd ["start", "width", "follow"] []) {mk : Addr → NdefX.NF} {cl : List (Str × Addr)} (hcl : ∀ c, (mk c).cl = cl) {ps fr : List Str} {ws : List (Option V)} {gF : Option Int → Nat → Option Int} {spF : List (Option V) → Sp} (Fn : ∀ f c, NdefX.NOk P w K mg base (L2.CX P w) 2 f (mk c) ps fr spF) {COv : Addr} (x_Oversized : ExF P w K mg base "Oversized" COv "limit") (c_letters : C8.Cal P w K mg base 1 "letters" sp_letters []) (g_STATES : ∃ u, mg "STATES" = some u ∧ RelV (.int 400) u) (z_len : mg "len" = none) (z_range : mg "range" = none) : CalG P w K mg base 3 "reached" (CbG cl fr ws) (sp_reachedN COv mk gF (spF ws)) := by
  refine calG0 D b sc_reached (fun vs H Q E h => ?_) (fun cdv A outer s H vs Q E hr gg h => ?_)
  · obtain ⟨_, _, _, _, _, rfl, _⟩ := h
    rfl
  · obtain ⟨fA, c', w1, l0, U, rfl, hf, hc, hw, hl0, hcl2, hfol, bad, ok⟩ := h
    have Fn1 := fun f => Fn f c'
    have gg1 : CbG (mk c').cl fr ws outer s.heap H := by rw [hcl]; exact gg
    refine ⟨_, (pss_cons (ps_set (i := 3) sc_reached.nd rfl (by first | exact Or.inl rfl | exact Or.inr rfl) (pe_lst (pa_cons (pv 0) pa_nil))) (pss_cons (ps_set (i := 4) sc_reached.nd rfl (by first | exact Or.inl rfl | exact Or.inr rfl) (pe_dispN (pv 0) pe_int)) (pss_cons (ps_set (i := 5) sc_reached.nd rfl (by first | exact Or.inl rfl | exact Or.inr rfl) (pe_lst pa_nil)) (pss_cons (ps_while (passes_of rfl) (pt_cmpR (op_lt) (pe_callB (lenS K) (by rfl) z_len PySem.boot_len (pa_cons (pv 5) pa_nil)) (pe_callB (lenS K) (by rfl) z_len PySem.boot_len (pa_cons (pv 3) pa_nil)) (nomark _)) (pss_cons (ps_set (i := 6) sc_reached.nd rfl (by first | exact Or.inl rfl | exact Or.inr rfl) (pe_ix (ixL K) (pv 3) (pe_callB (lenS K) (by rfl) z_len PySem.boot_len (pa_cons (pv 5) pa_nil)) (fun _ _ => rfl))) (pss_cons (ps_set (i := 7) sc_reached.nd rfl (by first | exact Or.inl rfl | exact Or.inr rfl) (pe_lst pa_nil)) (pss_cons (ps_for (passes_of rfl) rfl (pi_range1 (by rfl) z_range (pa_cons (C8.pe_c c_letters hr (by decide) (by rfl) (pa_cons (pv 1) pa_nil)) pa_nil)) (pg_name (i := 8) sc_reached.nd rfl (by first | exact Or.inl rfl | exact Or.inr rfl)) (pss_cons (ps_set (i := 9) sc_reached.nd rfl (by first | exact Or.inl rfl | exact Or.inr rfl) (pe_cb (i := 2) Fn1 gg1 rfl hr (by decide) (passes_call (takes_of rfl rfl rfl rfl) (fun _ _ _ _ h => h)) rfl (Or.inl rfl) (pa_cons (pv 6) (pa_cons (pv 8) pa_nil)))) (pss_cons (ps_if (pt_cmp (pc_nnot (pv 9) (pv 4))) (pss_cons (ps_if (pt_cmpR (op_eq) (pe_callB (lenS K) (by rfl) z_len PySem.boot_len (pa_cons (pv 3) pa_nil)) (C8.pe_gc (by rfl) g_STATES) (nomark _)) (pss_one (ps_raise rfl (takes_of rfl rfl rfl rfl) (pmk_ex x_Oversized hr (by decide) (by rfl) (pa_cons pe_str pa_nil)))) pss_nil) (pss_cons (ps_asg (pe_callB (lenS K) (by rfl) z_len PySem.boot_len (pa_cons (pv 3) pa_nil)) (pg_sub (pv 4) (pv 9) set_n)) (pss_one (ps_expr (pe_bm PySem.F.plainAttrs_list PySem.F.slot_list_append PySem.F.type_list_append mt_append (pv 3) (pa_cons (pv 9) pa_nil)))))) pss_nil) (pss_one (ps_expr (pe_bm PySem.F.plainAttrs_list PySem.F.slot_list_append PySem.F.type_list_append mt_append (pv 7) (pa_cons (pe_nget (pv 4) (pv 9) (fun _ _ => rfl)) pa_nil))))))) (pss_one (ps_expr (pe_bm PySem.F.plainAttrs_list PySem.F.slot_list_append PySem.F.type_list_append mt_append (pv 5) (pa_cons (pv 7) pa_nil)))))))) (pss_one (ps_ret (pe_tup (pa_cons (pv 3) (pa_cons (pv 5) pa_nil))))))))), ?_⟩
    walk_at "rd"
    refine ⟨by decide, fun pF hpF => fun pN hpN => ⟨upd_same, l0, rfl, by decide, fun pT hpT => ?_⟩⟩
    have hpN0 : H pN = none := (same_upd hpF).free hpN
    have nNF : pN ≠ pF := fun e => by rw [e, upd_same] at hpN; cases hpN
    have n3 : pT ≠ pN := fun e => by rw [e, upd_same] at hpT; cases hpT
    rw [upd_ne n3, upd_ne n3] at hpT
    have n4 : pT ≠ pF := fun e => by rw [e, upd_same] at hpT; cases hpT
    have hpT0 : H pT = none := by rwa [upd_ne n4] at hpT
    obtain ⟨H0, hH0⟩ : ∃ H0, H0 = upd (upd (upd (upd H pF (HO.lst [lV l0])) pN (NumN P w pN [])) pN (NumN P w pN [l0])) pT (HO.lst []) := ⟨_, rfl⟩
    have s0 : Same H H0 := by rw [hH0]; exact Dw.Same.new (Dw.Same.new (Dw.Same.new (same_upd hpF) hpN0) hpN0) hpT0
    have e0F : H0 pF = some (HO.lst [lV l0]) := by rw [hH0, upd_ne (Ne.symm n4), upd_ne (Ne.symm nNF), upd_ne (Ne.symm nNF), upd_same]
    have e0N : H0 pN = some (NumN P w pN [l0]) := by rw [hH0, upd_ne (Ne.symm n3), upd_same]
    have e0T : H0 pT = some (HO.lst []) := by rw [hH0, upd_same]
    rw [← hH0]
    refine while_W (fun m σ H1 => ∃ rs ls T u6 u7 u8 u9, U.length - T.length = m ∧ ls.length ≤ 400 ∧ [some (lV l0), some (nv w1), some (V.ref fA), some (V.ref pF), some (V.ref pN), some (V.ref pT), u6, u7, u8, u9] = σ ∧ RSN P w H H1 gF U (2 ^ w1) l0 pF pN pT rs ls T) ⟨_, [], [l0], [], none, none, none, none, rfl, (by rw [List.length_singleton]; decide), rfl, s0, e0F, e0N, e0T, ⟨rfl, (fun _ _ _ h => nomatch h)⟩, (fun _ h => nomatch h), BfsI.zero hl0⟩ ?_
    · rintro m σ H1 ⟨rs, ls, T, u6, u7, u8, u9, rfl, h400, rfl, R1⟩
      obtain ⟨s1, hF1, hN1, hT1, rows1, nr1, bfs1⟩ := R1
      have lT : rs.length = T.length := by rw [rows1.len]; unfold natT; rw [List.length_map]
      have hb := bfs1.bound
      walk_at "rd"
      refine ⟨_, .inl (SqL.of hT1), _, .inl (SqL.of hF1), ?_⟩
      rw [List.length_map, List.length_map, lT]
      refine ite2 (fun hlt => nxw_of fun N hN => ?_) (fun hge => ⟨by decide, fun p hp => ?_⟩)
      rotate_left 1
      · have s2 : Same H1 (upd H1 p (HO.tup [V.ref pF, V.ref pT])) := same_upd hp
        exact ok p ls T _ (Dw.Same.new s1 (Dw.Same.none s1 hp)) h400 ⟨⟨pF, pT, rs, upd_same, s2 _ _ hF1, s2 _ _ hT1, rows1.same s2, hpF, hpT0, n4, fun y hy => ⟨(nr1 y hy).1, (nr1 y hy).2.1, (nr1 y hy).2.2.2⟩⟩, bfs1, by have := bfs1.le; omega⟩
      · have hTl : T.length < ls.length := by omega
        obtain ⟨l, hl⟩ : ∃ l, ls[T.length]? = some l := ⟨_, List.getElem?_eq_getElem hTl⟩
        have hlU : l ∈ U := bfs1.sub l (List.mem_of_getElem? hl)
        walk_at "rd"
        have h64 : 2 ^ w1 ≤ 64 := Nat.pow_le_pow_right (by decide) hw
        refine ⟨_, .inl (SqL.of hT1), _, SqL.of hF1, lV l, by rw [List.length_map, lT]; exact at_map hl, by decide, fun R hR => ⟨w1, rfl, by omega, _, rfl, Int.le_trans (by decide) (Int.natCast_nonneg _), Int.lt_of_le_of_lt (Int.ofNat_le.mpr h64) (by decide), ?_⟩⟩
        rw [Int.toNat_natCast]
        have hR0 : H R = none := Dw.Same.none s1 hR
        have nRF : R ≠ pF := (ne_of_none hF1 hR).symm
        have nRN : R ≠ pN := (ne_of_none hN1 hR).symm
        have nRT : R ≠ pT := (ne_of_none hT1 hR).symm
        have nRr : ∀ y ∈ rs, y ≠ R := fun y hy e => rows1.free hR (e ▸ hy)
        have sR : Same H1 (upd H1 R (.lst [])) := same_upd hR
        refine for_rangeN (fun j σ H2 => ∃ ls2 row u8 u9, [some (lV l0), some (nv w1), some (V.ref fA), some (V.ref pF), some (V.ref pN), some (V.ref pT), some (lV l), some (V.ref R), u8, u9] = σ ∧ Same H H2 ∧ ls2.length ≤ 400 ∧ H2 pF = some (.lst (ls2.map lV)) ∧ H2 pN = some (NumN P w pN ls2) ∧ H2 pT = some (.lst (rs.map V.ref)) ∧ RowsAt H2 rs (natT T) ∧ H2 R = some (.lst (row.map nv)) ∧ RowI gF U ls l j ls2 row) ?_ ?_ ?_
        · exact ⟨ls, [], _, _, rfl, Dw.Same.new s1 hR0, h400, sR _ _ hF1, sR _ _ hN1, sR _ _ hT1, rows1.same sR, upd_same, RowI.zero bfs1.nd bfs1.sub⟩
        · rintro j σ H2 N2 hj ⟨ls2, row, u8, u9, rfl, s2, h2le, hF2, hD2, hT2, rows2, hR2, ri⟩ hN2
          have hlr := ri.len
          have hbd := ri.bound
          walk_at "rd"
          refine ⟨s2 _ _ hf, s2 _ _ hf, s2 _ _ hc, hfol H2 l j _ _ s2 hlU hj fun H3 s3 => ?_⟩
          have hF3 := s3 _ _ hF2
          have hD3 := s3 _ _ hD2
          have hT3 := s3 _ _ hT2
          have rows3 := rows2.same s3
          have hR3 := s3 _ _ hR2
          have s4 : Same H H3 := s2.trans s3
          refine ⟨gF l j, rfl, ls2, hD3, ?_⟩
          by_cases hm : gF l j ∈ ls2
          · rw [if_pos hm]
            refine ⟨tyL hR3, gF l j, rfl, ls2, hD3, hm, fun i hi => ?_⟩
            exact ⟨_, hR3, smallt (by rw [List.length_map]; omega), hN2 _ _ ⟨ls2, row ++ [i], _, _, rfl, Dw.Same.new s4 hR0, h2le, by rw [upd_ne (Ne.symm nRF)]; exact hF3, by rw [upd_ne (Ne.symm nRN)]; exact hD3, by rw [upd_ne (Ne.symm nRT)]; exact hT3, rows3.but But.upd nRr, by rw [upd_same, List.map_append]; rfl, ri.old hi⟩⟩
          · have hlt2 := ri.bound1 hm (hcl2 l hlU j hj)
            rw [if_neg hm]
            refine ⟨_, .inl (SqL.of hF3), ?_⟩
            rw [List.length_map]
            refine ite2 (fun e4 => ⟨by decide, fun a ha => raise_rz (Rz.same (bad ls T l j ls2 row bfs1 hl ri hj (by omega) hm) s4) ha⟩) (fun ne4 => ?_)
            refine ⟨_, .inl (SqL.of hF3), gF l j, rfl, ls2, by rw [List.length_map], hD3, hm, by omega, ?_⟩
            obtain ⟨H4, hH4⟩ : ∃ H4, H4 = upd H3 pN (NumN P w pN (ls2 ++ [gF l j])) := ⟨_, rfl⟩
            rw [← hH4]
            have hF4 : H4 pF = some (.lst (ls2.map lV)) := by rw [hH4, upd_ne (Ne.symm nNF)]; exact hF3
            obtain ⟨H5, hH5⟩ : ∃ H5, H5 = upd H4 pF (HO.lst (ls2.map lV ++ [lV (gF l j)])) := ⟨_, rfl⟩
            have hR5 : H5 R = some (.lst (row.map nv)) := by rw [hH5, upd_ne nRF, hH4, upd_ne nRN]; exact hR3
            have hD5 : H5 pN = some (NumN P w pN (ls2 ++ [gF l j])) := by rw [hH5, upd_ne nNF, hH4, upd_same]
            have s5 : Same H H5 := by rw [hH5, hH4]; exact Dw.Same.new (Dw.Same.new s4 hpN0) hpF
            refine ⟨tyL hF4, _, hF4, smallt (by rw [List.length_map]; omega), ?_⟩
            rw [← hH5]
            refine ⟨tyL hR5, gF l j, rfl, _, hD5, List.mem_append_right _ (List.mem_singleton.mpr rfl), fun i hi => ?_⟩
            have hi2 : i = ls2.length := by
              have nd2 := snoc_nodup ri.nd hm
              obtain ⟨h1, h2⟩ := List.getElem?_eq_some_iff.mp hi
              have h3 : (ls2 ++ [gF l j])[ls2.length]? = some (gF l j) := by rw [List.getElem?_append_right (Nat.le_refl _), Nat.sub_self]; rfl
              obtain ⟨h4, h5⟩ := List.getElem?_eq_some_iff.mp h3
              exact (List.getElem_inj nd2 (i := i) (j := ls2.length)).mp (by rw [h2, h5])
            subst hi2
            refine ⟨_, hR5, smallt (by rw [List.length_map]; omega), hN2 _ _ ⟨ls2 ++ [gF l j], row ++ [ls2.length], _, _, rfl, Dw.Same.new s5 hR0, ?_, ?_, ?_, ?_, ?_, ?_, ri.new hm (hcl2 l hlU j hj)⟩⟩
            · rw [List.length_append]; show ls2.length + 1 ≤ 400; omega
            · rw [upd_ne (Ne.symm nRF), hH5, upd_same, List.map_append]; rfl
            · rw [upd_ne (Ne.symm nRN)]; exact hD5
            · rw [upd_ne (Ne.symm nRT), hH5, upd_ne n4, hH4, upd_ne n3]; exact hT3
            · rw [hH5, hH4]; exact ((rows3.but But.upd fun y hy => (nr1 y hy).2.2.1).but But.upd fun y hy => (nr1 y hy).2.1).but But.upd nRr
            · rw [upd_same, List.map_append]; rfl
        · rintro σ H2 ⟨ls2, row, u8, u9, rfl, s2, h2le, hF2, hN2, hT2, rows2, hR2, ri⟩
          have hlr := ri.len
          walk_at "rd"
          have hlT : T.length < 400 := by omega
          refine ⟨tyL hT2, _, hT2, smallt (by rw [List.length_map]; omega), hN (U.length - (T.length + 1)) _ _ (by omega) ⟨rs ++ [R], ls2, T ++ [row], (by rw [List.length_append]; rfl), h2le, _, _, _, _, rfl, Dw.Same.new s2 hpT0, ?_, ?_, ?_, ?_, ?_, bfs1.step hl ri⟩⟩
          · rw [upd_ne (Ne.symm n4)]; exact hF2
          · rw [upd_ne (Ne.symm n3)]; exact hN2
          · rw [upd_same, List.map_append]; rfl
          · have e : natT (T ++ [row]) = natT T ++ [row.map fun (x : Nat) => (x : Int)] := by unfold natT; rw [List.map_append]; rfl
            rw [e]
            refine RowsAt.but (RowsAt.snoc rows2 (by rw [List.map_map]; exact hR2)) But.upd fun y hy => ?_
            rcases List.mem_append.mp hy with hy | hy
            · exact (nr1 y hy).2.2.2
            · rw [List.mem_singleton.mp hy]; exact nRT
          · intro y hy
            rcases List.mem_append.mp hy with hy | hy
            · exact nr1 y hy
            · rw [List.mem_singleton.mp hy]; exact ⟨hR0, nRF, nRN, nRT⟩
def kdS (ex : Bool) : Str := if ex = true then Str.ofString "eq" else Str.ofString "le"
def nxL (ex : Bool) (l : Option Int) (d : Int) : Option Int := match l with
  | none => none
  | some r => if ex = true ∧ (r - d) % 2 ≠ 0 then none else some ((r - d) / 2)
def sp_lbehN : Sp := fun vs H Q _ => ∃ (ex : Bool) (l : Option Int) (d : Int), vs = [.str (kdS ex), lV l, .int d] ∧ (ex = false → l ≠ none) ∧ Q (lV (nxL ex l d)) H
theorem c_label_behind {f : Addr} {fd : FuncData} (D : C8.Def K mg "label_behind" s_label_behind f fd) (b : Binds K fd ["kind", "label", "weight"] [])  : C8.Cal P w K mg base 1 "label_behind" sp_lbehN [] := by
  refine C8.cal0 D b .nil sc_label_behind (fun vs H Q E h => ?_) (fun cdv A outer s H vs Q E hr h => ?_)
  · obtain ⟨_, _, _, rfl, _⟩ := h
    rfl
  · obtain ⟨ex, l, d, rfl, hno, ok⟩ := h
    refine ⟨_, (pss_cons (ps_if (PW.pt (pw_and (pt_cmpR (op_eq) (pv 0) pe_str (nomark _)) (pw_and1 (PW.pt (pw_or (pt_cmpR (op_isN) (pv 1) pe_non (nomark _)) (pw_or1 (pt_cmpR (op_ne) (pe_op op_mod (pe_op op_sub (pv 1) (pv 2)) pe_int) pe_int (nomark _)))))))) (pss_one (ps_ret pe_non)) pss_nil) (pss_one (ps_ret (pe_op op_fdiv (pe_op op_sub (pv 1) (pv 2)) pe_int)))), ?_⟩
    walk_at "rd"
    cases ex with
    | false =>
      cases l with
      | none => exact absurd rfl (hno rfl)
      | some r =>
        rw [if_neg (by decide +kernel)]
        exact ⟨_, rfl, ⟨by decide, by decide⟩, ok⟩
    | true =>
      rw [if_pos (by decide +kernel)]
      cases l with
      | none =>
        rw [if_pos (show lV none = V.non from rfl)]
        exact ok
      | some r =>
        rw [if_neg (show ¬ lV (some r) = V.non from fun z => nomatch z)]
        refine ⟨_, rfl, by decide, ?_⟩
        by_cases h2 : (r - d) % 2 = 0
        · rw [if_pos h2]
          refine ⟨_, rfl, ⟨by decide, by decide⟩, ?_⟩
          have : nxL true (some r) d = some ((r - d) / 2) := if_neg fun z => z.2 h2
          rw [this] at ok
          exact ok
        · rw [if_neg h2]
          have : nxL true (some r) d = none := if_pos ⟨rfl, h2⟩
          rw [this] at ok
          exact ok
def sp_isaccN : Sp := fun vs H Q _ => ∃ (ex : Bool) (l : Option Int), vs = [.str (kdS ex), lV l] ∧ (ex = false → l ≠ none) ∧ Q (.bl (accL ex l)) H
theorem c_is_accepting {f : Addr} {fd : FuncData} (D : C8.Def K mg "is_accepting" s_is_accepting f fd) (b : Binds K fd ["kind", "label"] [])  : C8.Cal P w K mg base 1 "is_accepting" sp_isaccN [] := by
  refine C8.cal0 D b .nil sc_is_accepting (fun vs H Q E h => ?_) (fun cdv A outer s H vs Q E hr h => ?_)
  · obtain ⟨_, _, rfl, _⟩ := h
    rfl
  · obtain ⟨ex, l, rfl, hno, ok⟩ := h
    refine ⟨_, (pss_one (ps_ret (pe_ifExp (pt_cmpR (op_eq) (pv 0) pe_str (nomark _)) (pe_cmpR (op_eq) (pv 1) pe_int (nomark _)) (pe_cmpR (op_ge) (pv 1) pe_int (nomark _))))), ?_⟩
    walk_at "rd"
    cases ex with
    | false =>
      cases l with
      | none => exact absurd rfl (hno rfl)
      | some r =>
        rw [if_neg (by decide +kernel)]
        exact ⟨_, rfl, ok⟩
    | true =>
      rw [if_pos (by decide +kernel)]
      cases l with
      | none => exact ⟨rfl, ok⟩
      | some r =>
        refine ⟨rfl, ?_⟩
        have e : decide (lV (some r) = V.int 0) = decide (r = 0) := by
          by_cases h : r = 0
          · subst h; rfl
          · rw [decide_eq_false h, decide_eq_false (show ¬ lV (some r) = V.int 0 from fun z => h (V.int.inj z))]
        rw [e]
        exact ok
def sp_weights (K : PySem.W.Frag) : Sp := fun vs H Q _ => ∃ (a : Addr) (cs : List Int), vs = [.ref a] ∧ SqL K H a (cs.map V.int) ∧ cs.length ≤ 6 ∧ ∀ p H', Same H H' → H p = none → H' p = some (.lst ((wts cs).map V.int)) → Q (.ref p) H'
theorem c_weights {f : Addr} {fd : FuncData} (D : C8.Def K mg "weights" s_weights f fd) (b : Binds K fd ["coefficients"] []) (c_digit : C8.Cal P w K mg base 1 "digit" sp_digit []) (c_letters : C8.Cal P w K mg base 1 "letters" sp_letters []) (z_len : mg "len" = none) (z_range : mg "range" = none) (z_sum : mg "sum" = none) (z_enumerate : mg "enumerate" = none) : C8.Cal P w K mg base 2 "weights" (sp_weights K) [] := by
  refine C8.cal0 D b .nil sc_weights (fun vs H Q E h => ?_) (fun cdv A outer s H vs Q E hr h => ?_)
  · obtain ⟨_, _, rfl, _⟩ := h
    rfl
  · obtain ⟨a, cs, rfl, ha, hn, ok⟩ := h
    refine ⟨_, (pss_one (ps_ret (pe_lc (own := [("letter", 1)]) (g := (gName 1)) (tt := tYes) rfl sc_weights.nd (pi_range1 (by rfl) z_range (pa_cons (C8.pe_c c_letters hr (by decide) (by rfl) (pa_cons (pe_callB (lenS K) (by rfl) z_len PySem.boot_len (pa_cons (pv 0) pa_nil)) pa_nil)) pa_nil)) (blkOk_by (N := N_weights) (sc := C8.fnScope s_weights) (by decide +kernel)) (fun _ _ _ _ _ => (pg_name (i := 1) sc_weights.nd rfl (by first | exact Or.inl rfl | exact Or.inr rfl))) (fun _ _ _ _ _ => pts_nil) (fun _ _ _ _ _ => (pe_callB (sumK K) (by rfl) z_sum (by decide +kernel) (pa_cons (pe_lc (own := [("track", 2), ("coefficient", 3)]) (g := (gTup K 2 (gCons (gName 2) (gCons (gName 3) gNil)))) (tt := tYes) rfl sc_weights.nd (piE K (by rfl) z_enumerate (pa_cons (pv 0) pa_nil)) (blkOk_nm (N := N_weights) [(".0", .local), ("letter", .cell), ("sum", .globalImplicit), ("enumerate", .globalImplicit), ("coefficients", .cell)] (by rfl) (by decide +kernel)) (fun _ _ _ _ _ => (pg_tup (n := 2) rfl (pgs_cons (pg_name (i := 2) sc_weights.nd rfl (by first | exact Or.inl rfl | exact Or.inr rfl)) (pgs_cons (pg_name (i := 3) sc_weights.nd rfl (by first | exact Or.inl rfl | exact Or.inr rfl)) pgs_nil)))) (fun _ _ _ _ _ => pts_nil) (fun _ _ _ _ _ => (pe_op op_mul (pv 3) (C8.pe_c c_digit hr (by decide) (by rfl) (pa_cons (pv 1) (pa_cons (pv 2) pa_nil)))))) pa_nil)))))), ?_⟩
    walk_at "rd"
    have h64 : 2 ^ cs.length ≤ 64 := Nat.pow_le_pow_right (by decide) hn
    refine ⟨_, .inl ha, cs.length, by rw [List.length_map], by omega, _, rfl, Int.le_trans (by decide) (Int.natCast_nonneg _), Int.lt_of_le_of_lt (Int.ofNat_le.mpr h64) (by decide), fun D hD => ?_⟩
    rw [Int.toNat_natCast]
    refine lc_map walk_range (fun l => .int (wsum cs l)) (by omega) hD (fun _ _ => trivial) ?_ ?_
    · rintro l x H1 H2 N hl s1 ⟨rfl, rfl⟩ hN
      walk_at "rd"
      refine ⟨_, s1.seq ha, fun D2 hD2 => ?_⟩
      refine lc_map (walk_enum (xs := cs.map V.int)) (fun j => .int (cs.getD j 0 * ((l / 2 ^ j % 2 : Nat) : Int))) (by rw [List.length_map]; omega) hD2 (fun H5 s5 => s5.seq (s1.seq ha)) ?_ ?_
      · rintro j x H5 H6 N2 hj s5 ⟨Tp, y, z, rfl, hT, rfl, ey, ez⟩ hN2
        cases ey
        rw [List.length_map] at hj
        have ez : z = .int (cs.getD j 0) := by
          have h1 : (cs.map V.int)[j]? = some (.int (cs.getD j 0)) := by rw [List.getElem?_map, List.getD_eq_getElem?_getD, List.getElem?_eq_getElem hj]; rfl
          exact (Option.some.inj (h1.symm.trans ez)).symm
        subst ez
        have h := hN2 _ (same_upd (o := .tup [V.int (j : Nat), V.int (cs.getD j 0)]) hT)
        have hb : l / 2 ^ j % 2 < 2 := Nat.mod_lt _ (by decide)
        walk_at "rd"
        refine ⟨_, SqT.of upd_same, rfl, _, _, rfl, _, _, rfl, rfl, ?_⟩
        exact ⟨l, j, rfl, _, rfl, _, rfl, .inr ⟨Int.lt_of_lt_of_le (by decide) (Int.natCast_nonneg _), Int.lt_trans (Int.ofNat_lt.mpr hb) (by decide)⟩, h⟩
      · intro H5 s5 h5
        refine ⟨(List.range cs.length).map fun j => cs.getD j 0 * ((l / 2 ^ j % 2 : Nat) : Int), SqL.of (by rw [h5, List.length_map, List.map_map]; rfl), ?_⟩
        rw [wsum_map]
        exact hN _ s5
    · intro H1 s1 h1
      refine ok D H1 s1 hD ?_
      rw [h1]
      unfold wts
      rw [List.map_map]
      rfl
def sp_followN (ex : Bool) (ws : List (Option V)) : Sp := fun vs H Q _ => ∃ (sL : Addr) (cs : List Int) (l : Option Int) (j : Nat), ws = [some (.str (kdS ex)), some (.ref sL)] ∧ vs = [lV l, nv j] ∧ H sL = some (.lst ((wts cs).map V.int)) ∧ j < 2 ^ cs.length ∧ (ex = false → l ≠ none) ∧ Q (lV (gN ex (wts cs) l j)) H
theorem nxL_gN (ex : Bool) {cs : List Int} {j : Nat} (hj : j < 2 ^ cs.length) (l : Option Int) : nxL ex l (wsum cs j) = gN ex (wts cs) l j := by
  cases l with
  | none => rfl
  | some r =>
    rw [gN_at ex hj]
    rfl
theorem n_labelled_follow {q : Str} {cl : List (Str × Addr)} {c' : Addr} {ex : Bool} (c_label_behind : C8.Cal P w K mg base 1 "label_behind" sp_lbehN []) : ∀ f, NdefX.NOk P w K mg base (L2.CX P w) 2 f (NdefX.NF.of s_labelled_follow "follow" q cl c') ["label", "letter"] ["kind", "sums"] (sp_followN ex) := by
  intro f
  refine NdefX.nok_of sc_labelled_follow (fun _ _ _ us hl => match us, hl with | [_, _], _ => rfl) (fun ws vs H Q E h => ?_) (fun A outer s H vs ws Q E hr hf0 hc0 hws h => ?_)
  · obtain ⟨_, _, _, _, _, rfl, _⟩ := h
    rfl
  · obtain ⟨sL, cs, l, j, rfl, rfl, hs, hj, hno, ok⟩ := h
    refine ⟨_, (pss_one (ps_ret (C8.pe_c c_label_behind hr (by decide) (by rfl) (pa_cons (pv 2) (pa_cons (pv 0) (pa_cons (pe_ix (ixL K) (pv 3) (pv 1) (fun _ _ => rfl)) pa_nil)))))), ?_⟩
    walk_at "rd"
    exact ⟨_, SqL.of hs, _, at_map (wts_at hj), ex, l, wsum cs j, rfl, hno, by rw [nxL_gN ex hj]; exact ok⟩
def qL : Str := (envOfC "labelled" (C8.fnScope s_labelled) 0 0 .none).qual ++ Str.ofString "follow"
def nmL : Nat → Nat → Str := fun _ _ => qL
def sp_labelledN (K : PySem.W.Frag) (C COv : Addr) (TBL : List NdefX.NTab) : Sp := fun vs H Q E => ∃ (cl : Addr) (cs : List Int) (cst : Int) (ex : Bool) (U : List (Option Int)), vs = [.str (kdS ex), .ref cl, .int cst] ∧ SqL K H cl (cs.map V.int) ∧ (cs.length ≤ 6 ∧ some (-cst) ∈ U ∧ (ex = false → none ∉ U) ∧ (∀ l ∈ U, ∀ j, j < 2 ^ cs.length → gN ex (wts cs) l j ∈ U)) ∧ NdefX.TabsN TBL H ∧
  (∀ ls T0 l j ls2 row, BfsI (gN ex (wts cs)) U (2 ^ cs.length) (some (-cst)) ls T0 → ls[T0.length]? = some l → RowI (gN ex (wts cs)) U ls l j ls2 row → j < 2 ^ cs.length → ls2.length = 400 → gN ex (wts cs) l j ∉ ls2 → RzX TBL COv "limit" (.str "states") H E) ∧
  (∀ z m' L f ls T3 acc3 H', ExtT H H' → NdefX.TabsN TBL H' → H' z = some (.tup [.ref m', .ref f]) → H z = none → MachP C H' L m' cs.length (natT T3) acc3 → (∀ a ∈ L, H a = none) → MOk cs.length (natT T3) acc3 → H' f = some (.lst (ls.map lV)) → BfsI (gN ex (wts cs)) U (2 ^ cs.length) (some (-cst)) ls T3 → T3.length = ls.length → ls.length ≤ 400 → acc3 = ls.map (accL ex) → H f = none → Q (.ref z) H')
theorem c_labelled {f c PtL : Addr} {oc kV doc pm ct : Value} {od an : Option Addr} {osl : Array (Option Value)} (lk : K.lookup f = some ⟨oc, od, .func (PySem.W.fnOf "labelled" "labelled" (C8.fnArgs s_labelled) (C8.fnBody s_labelled) (C8.fnScope s_labelled) .none kV doc pm an (.ref c) ct), osl⟩) (hcd : PySem.W.codeIn K (.ref c) "labelled" = true) (hmg : mg "labelled" = some (.ref f)) (kp : PySem.W.keepIn K (.ref f) = true)
    (b : Binds K (PySem.W.fnOf "labelled" "labelled" (C8.fnArgs s_labelled) (C8.fnBody s_labelled) (C8.fnScope s_labelled) .none kV doc pm an (.ref c) ct) ["kind", "coefficients", "constant"] []) (TB : LamX.TabB base mg c PtL) {TBL : List NdefX.NTab} (hmem_labelled : (PtL, nmL) ∈ TBL) (huni_labelled : ∀ p ∈ TBL, p.1 = PtL → p.2 = nmL) {CM : Addr} (c_M : Cls K CM) (n_width : NoAttr K CM "width") (n_table : NoAttr K CM "table") (n_accepting : NoAttr K CM "accepting") {COv : Addr} (c_check_width : C8.Cal P w K mg base 1 "check_width" sp_check_width []) (c_weights : C8.Cal P w K mg base 2 "weights" (sp_weights K) []) (c_is_accepting : C8.Cal P w K mg base 1 "is_accepting" sp_isaccN []) (z_len : mg "len" = none) (k_Machine : C8.Mak P w K mg base 3 "Machine" CM (sp_minit CM) []) (cL_reached : ∀ (cl : List (Str × Addr)) (ws : List (Option V)) (ex : Bool) (cs : List Int) (q : Str), CalG P w K mg base 3 "reached" (CbG cl ["kind", "sums"] ws) (sp_reachedN COv (NdefX.NF.of s_labelled_follow "follow" q cl) (gN ex (wts cs)) (sp_followN ex ws))) : CalX P w K mg base 5 "labelled" (sp_labelledN K CM COv TBL) := by
  refine calXK lk hcd hmg kp b sc_labelled (fun vs H Q E h => ?_) (fun A outer s H vs Q E hr h => ?_)
  · obtain ⟨_, _, _, _, _, rfl, _⟩ := h
    rfl
  · obtain ⟨cl, cs, cst, ex, U, rfl, hcl, ⟨hn, hU0, hUn, hUc⟩, htb, bad, ok⟩ := h
    refine ⟨_, (pss_cons (ps_set (i := 3) sc_labelled.nd rfl (by first | exact Or.inl rfl | exact Or.inr rfl) (pe_callB (lenS K) (by rfl) z_len PySem.boot_len (pa_cons (pv 1) pa_nil))) (pss_cons (ps_expr (C8.pe_c c_check_width hr (by decide) (by rfl) (pa_cons (pv 3) pa_nil))) (pss_cons (ps_set (i := 7) sc_labelled.nd rfl (by first | exact Or.inl rfl | exact Or.inr rfl) (C8.pe_c c_weights hr (by decide) (by rfl) (pa_cons (pv 1) pa_nil))) (pss_cons (NdefX.ps_ndefMS (st := s_labelled_follow) (T := TBL) (i := 4) (nm := nmL) rfl TB rfl hmem_labelled rfl huni_labelled (NdefX.ndef_free (by decide +kernel : NdefX.ndefB (C8.fnScope s_labelled) (C8.fnScope s_labelled_follow) ["kind", "sums"] = true)) rfl rfl rfl sc_labelled.nd rfl (Or.inl rfl) (Or.inl rfl)) (pss_cons (ps_asg (pe_cG (js := [0, 7]) (sp := fun ws => sp_reachedN COv (NdefX.NF.of s_labelled_follow "follow" qL _) (gN ex (wts cs)) (sp_followN ex ws)) (fun ws => cL_reached _ ws ex cs qL) (fun ok => NdefX.Caps.made ok (NdefX.ndef_free (by decide +kernel : NdefX.ndefB (C8.fnScope s_labelled) (C8.fnScope s_labelled_follow) ["kind", "sums"] = true)) (NdefX.ndef_fr (by decide +kernel : NdefX.ndefB (C8.fnScope s_labelled) (C8.fnScope s_labelled_follow) ["kind", "sums"] = true)) rfl) (fun _ => rfl) hr (by decide) (passes_call (takes_of rfl rfl rfl rfl) (fun _ _ _ _ h => h)) (by rfl) (pa_cons (pe_un un_neg (pv 2)) (pa_cons (pv 3) (pa_cons (pv 4) pa_nil)))) (pg_tup (n := 2) rfl (pgs_cons (pg_name (i := 5) sc_labelled.nd rfl (by first | exact Or.inl rfl | exact Or.inr rfl)) (pgs_cons (pg_name (i := 6) sc_labelled.nd rfl (by first | exact Or.inl rfl | exact Or.inr rfl)) pgs_nil)))) (pss_one (ps_ret (pe_tup (pa_cons (C8.pe_mk k_Machine hr (by decide) (by rfl) (pa_cons (pv 3) (pa_cons (pv 6) (pa_cons (pe_lc (own := [("label", 8)]) (g := (gName 8)) (tt := tYes) rfl sc_labelled.nd (piL K (pv 5)) (blkOk_by (N := N_labelled) (sc := C8.fnScope s_labelled) (by decide +kernel)) (fun _ _ _ _ _ => (pg_name (i := 8) sc_labelled.nd rfl (by first | exact Or.inl rfl | exact Or.inr rfl))) (fun _ _ _ _ _ => pts_nil) (fun _ _ _ _ _ => (C8.pe_c c_is_accepting hr (by decide) (by rfl) (pa_cons (pv 0) (pa_cons (pv 8) pa_nil))))) pa_nil)))) (pa_cons (pv 5) pa_nil)))))))))), ?_⟩
    walk_at "rd"
    refine ⟨_, .inl hcl, cs.length, by rw [List.length_map], hn, cl, cs, rfl, hcl, hn, fun sL H0 s0 hsL0 esL => ?_⟩
    have elen : ((cs.map V.int).length : Int) = (cs.length : Int) := by rw [List.length_map]
    rw [elen]
    refine ⟨htb.ext s0, fun fA c' H1 x1 n1 tb1 hfA hf1 hc1 => ?_⟩
    have X01 : ExtT H0 H1 := ⟨x1, n1⟩
    have X1 : ExtT H H1 := (ExtT.of s0).trans X01
    have hs1 := X01.lst esL
    have h64 : 2 ^ cs.length ≤ 64 := Nat.pow_le_pow_right (by decide) hn
    refine ⟨fA, c', cs.length, some (-cst), U, rfl, hf1, hc1, hn, hU0, hUc, ?_, fun ls T0 l j ls2 row h1 h2 h3 h4 h5 h6 => (bad ls T0 l j ls2 row h1 h2 h3 h4 h5 h6).rz X1 tb1, fun p ls T3 H5 s5 h400 r5 => ?_⟩
    · intro H5 l j Q1 E1 s5 hl hj ok1
      exact ⟨sL, cs, l, j, rfl, rfl, s5 _ _ hs1, hj, fun e z => hUn e (z ▸ hl), ok1 _ (Same.refl _)⟩
    obtain ⟨f5, t5, rs, hp5, hf5, ht5, rows5, f0, t0, ntf, nr5⟩ := r5.ex
    have X5 : ExtT H H5 := X1.trans (ExtT.of s5)
    refine ⟨p, rfl, _, SqT.of hp5, rfl, _, _, rfl, _, _, rfl, rfl, f5, rfl, ⟨_, SqL.of hf5⟩, fun D hD => ?_⟩
    refine lc_map (walk_list (xs := ls.map lV)) (fun i => .bl (accL ex (ls.getD i none))) (by rw [List.length_map]; omega) hD (fun H6 s6 => s6.seq (SqL.of hf5)) ?_ ?_
    · rintro i x H6 H7 N hi s6 ⟨rfl, ex0⟩ hN
      rw [List.length_map] at hi
      rw [List.getElem?_map, List.getElem?_eq_getElem hi] at ex0
      cases ex0
      have h := hN _ (Same.refl _)
      rw [List.getD_eq_getElem?_getD (l := ls), List.getElem?_eq_getElem hi, Option.getD_some] at h
      walk_at "rd"
      exact ⟨ex, ls[i], rfl, fun e z => hUn e (z ▸ r5.bfs.sub _ (List.getElem_mem hi)), h⟩
    intro H6 s6 h6
    have X6 := X5.trans (ExtT.of s6)
    have e6 : (List.range (ls.map lV).length).map (fun i => V.bl (accL ex (ls.getD i none))) = (ls.map (accL ex)).map V.bl := by
      refine List.ext_getElem (by simp) fun i p q => ?_
      have hi : i < ls.length := by simpa using p
      simp only [List.getElem_map, List.getElem_range]
      rw [List.getD_eq_getElem?_getD (l := ls), List.getElem?_eq_getElem hi]
      rfl
    rw [e6] at h6
    have mk : MOk cs.length (natT T3) (ls.map (accL ex)) := mok_bfs hn r5.bfs r5.all h400 fun l hl => accL_set ex cs l
    intro x1 dx hx hdx ndx
    have s7 : Same H6 (upd (upd H6 dx (HO.own x1)) x1 (HO.ins CM dx [])) := same2 hx hdx
    refine ⟨x1, dx, t5, D, rs, cs.length, natT T3, ls.map (accL ex), rfl, upd_same, s7 _ _ (s6 _ _ ht5), (rows5.same s6).same s7, s7 _ _ h6, mk, fun H8 b8 n8 => ⟨rfl, by decide, fun z hz => ?_⟩⟩
    have s68 := same_mk (fun _ _ e => e) hx hdx b8
    have s8 : Same H6 (upd H8 z (HO.tup [V.ref x1, V.ref f5])) := s68.trans (same_upd hz)
    obtain ⟨L8, mp8, fr8⟩ := n8.parts
    have fr : ∀ a ∈ L8, H a = none := fun a ha => by
      rcases fr8 a ha with rfl | e
      · exact X6.free _ hx
      · exact X6.free _ (Dw.Same.none s7 e)
    exact ok z x1 L8 f5 ls T3 _ _ (X6.trans (ExtT.of s8)) (((tb1.ext s5).ext s6).ext s8) upd_same (X6.free _ (s68.free hz)) (mp8.same (same_upd hz)) fr mk (s8 _ _ (s6 _ _ hf5)) r5.bfs r5.all h400 rfl (X1.free _ f0)
def sp_eqn (K : PySem.W.Frag) (C COv : Addr) (TBL : List NdefX.NTab) : Sp := fun vs H Q E => ∃ (cl : Addr) (cs : List Int) (cst : Int) (U : List (Option Int)), vs = [.ref cl, .int cst] ∧ SqL K H cl (cs.map V.int) ∧ (cs.length ≤ 6 ∧ some (-cst) ∈ U ∧ (∀ l ∈ U, ∀ j, j < 2 ^ cs.length → gN true (wts cs) l j ∈ U)) ∧ NdefX.TabsN TBL H ∧
  (∀ ls T0 l j ls2 row, BfsI (gN true (wts cs)) U (2 ^ cs.length) (some (-cst)) ls T0 → ls[T0.length]? = some l → RowI (gN true (wts cs)) U ls l j ls2 row → j < 2 ^ cs.length → ls2.length = 400 → gN true (wts cs) l j ∉ ls2 → RzX TBL COv "limit" (.str "states") H E) ∧
  (∀ z m' L f ls T3 acc3 H', ExtT H H' → NdefX.TabsN TBL H' → H' z = some (.tup [.ref m', .ref f]) → H z = none → MachP C H' L m' cs.length (natT T3) acc3 → (∀ a ∈ L, H a = none) → MOk cs.length (natT T3) acc3 → H' f = some (.lst (ls.map lV)) → BfsI (gN true (wts cs)) U (2 ^ cs.length) (some (-cst)) ls T3 → T3.length = ls.length → ls.length ≤ 400 → acc3 = ls.map (accL true) → H f = none → Q (.ref z) H')
theorem c_equation {f : Addr} {fd : FuncData} (D : C8.Def K mg "equation" s_equation f fd) (b : Binds K fd ["coefficients", "constant"] []) {CM COv : Addr} {TBL : List NdefX.NTab} (c_labelled : CalX P w K mg base 5 "labelled" (sp_labelledN K CM COv TBL)) : CalX P w K mg base 6 "equation" (sp_eqn K CM COv TBL) := by
  refine calX0 D b sc_equation (fun vs H Q E h => ?_) (fun cdv A outer s H vs Q E hr h => ?_)
  · obtain ⟨_, _, _, _, rfl, _⟩ := h
    rfl
  · obtain ⟨cl, cs, cst, U, rfl, hcl, ⟨hn, hU0, hUc⟩, htb, bad, ok⟩ := h
    refine ⟨_, (pss_one (ps_ret (pe_cx c_labelled hr (by decide) (passes_call (takes_of rfl rfl rfl rfl) (fun _ _ _ _ h => h)) (by rfl) (pa_cons pe_str (pa_cons (pv 0) (pa_cons (pv 1) pa_nil)))))), ?_⟩
    walk_at "rd"
    exact ⟨cl, cs, cst, true, U, rfl, hcl, ⟨hn, hU0, fun e => (nomatch e), hUc⟩, htb, bad, ok⟩
def sp_amN (K : PySem.W.Frag) (C COv : Addr) (TBL : List NdefX.NTab) : Sp := fun vs H Q E => ∃ (cl : Addr) (cs : List Int) (cst : Int) (U : List (Option Int)), vs = [.ref cl, .int cst] ∧ SqL K H cl (cs.map V.int) ∧ (cs.length ≤ 6 ∧ some (-cst) ∈ U ∧ none ∉ U ∧ (∀ l ∈ U, ∀ j, j < 2 ^ cs.length → gN false (wts cs) l j ∈ U)) ∧ NdefX.TabsN TBL H ∧
  (∀ ls T0 l j ls2 row, BfsI (gN false (wts cs)) U (2 ^ cs.length) (some (-cst)) ls T0 → ls[T0.length]? = some l → RowI (gN false (wts cs)) U ls l j ls2 row → j < 2 ^ cs.length → ls2.length = 400 → gN false (wts cs) l j ∉ ls2 → RzX TBL COv "limit" (.str "states") H E) ∧
  (∀ z m' L f ls T3 acc3 H', ExtT H H' → NdefX.TabsN TBL H' → H' z = some (.tup [.ref m', .ref f]) → H z = none → MachP C H' L m' cs.length (natT T3) acc3 → (∀ a ∈ L, H a = none) → MOk cs.length (natT T3) acc3 → H' f = some (.lst (ls.map lV)) → BfsI (gN false (wts cs)) U (2 ^ cs.length) (some (-cst)) ls T3 → T3.length = ls.length → ls.length ≤ 400 → acc3 = ls.map (accL false) → H f = none → Q (.ref z) H')
theorem c_at_most {f : Addr} {fd : FuncData} (D : C8.Def K mg "at_most" s_at_most f fd) (b : Binds K fd ["coefficients", "constant"] []) {CM COv : Addr} {TBL : List NdefX.NTab} (c_labelled : CalX P w K mg base 5 "labelled" (sp_labelledN K CM COv TBL)) : CalX P w K mg base 6 "at_most" (sp_amN K CM COv TBL) := by
  refine calX0 D b sc_at_most (fun vs H Q E h => ?_) (fun cdv A outer s H vs Q E hr h => ?_)
  · obtain ⟨_, _, _, _, rfl, _⟩ := h
    rfl
  · obtain ⟨cl, cs, cst, U, rfl, hcl, ⟨hn, hU0, hUn, hUc⟩, htb, bad, ok⟩ := h
    refine ⟨_, (pss_one (ps_ret (pe_cx c_labelled hr (by decide) (passes_call (takes_of rfl rfl rfl rfl) (fun _ _ _ _ h => h)) (by rfl) (pa_cons pe_str (pa_cons (pv 0) (pa_cons (pv 1) pa_nil)))))), ?_⟩
    walk_at "rd"
    exact ⟨cl, cs, cst, false, U, rfl, hcl, ⟨hn, hU0, fun _ => hUn, hUc⟩, htb, bad, ok⟩
def sp_lsums (K : PySem.W.Frag) : Sp := fun vs H Q _ => ∃ (a : Addr) (cs : List Int), vs = [.ref a] ∧ SqL K H a (cs.map V.int) ∧ cs.length ≤ 6 ∧ ∀ p H', Same H H' → H p = none → H' p = some (.lst ((sumsF cs).map V.int)) → Q (.ref p) H'
theorem c__law_sums {f : Addr} {fd : FuncData} (D : C8.Def K mg "_law_sums" s__law_sums f fd) (b : Binds K fd ["coefficients"] [])  : C8.Cal P w K mg base 1 "_law_sums" (sp_lsums K) [] := by
  refine C8.cal0 D b .nil sc__law_sums (fun vs H Q E h => ?_) (fun cdv A outer s H vs Q E hr h => ?_)
  · obtain ⟨_, _, rfl, _⟩ := h
    rfl
  · obtain ⟨a, cs, rfl, ha, hn, ok⟩ := h
    refine ⟨_, (pss_cons (ps_set (i := 1) sc__law_sums.nd rfl (by first | exact Or.inl rfl | exact Or.inr rfl) (pe_lst (pa_cons pe_int pa_nil))) (pss_cons (ps_for PassesOwn.never rfl (piL K (pv 0)) (pg_name (i := 2) sc__law_sums.nd rfl (by first | exact Or.inl rfl | exact Or.inr rfl)) (pss_one (ps_set (i := 1) sc__law_sums.nd rfl (by first | exact Or.inl rfl | exact Or.inr rfl) (pe_op op_cat (pv 1) (pe_lc (own := [("total", 3)]) (g := (gName 3)) (tt := tYes) rfl sc__law_sums.nd (piL K (pv 1)) (blkOk_by (N := N__law_sums) (sc := C8.fnScope s__law_sums) (by decide +kernel)) (fun _ _ _ _ _ => (pg_name (i := 3) sc__law_sums.nd rfl (by first | exact Or.inl rfl | exact Or.inr rfl))) (fun _ _ _ _ _ => pts_nil) (fun _ _ _ _ _ => (pe_op op_add (pv 3) (pv 2)))))))) (pss_one (ps_ret (pv 1))))), ?_⟩
    walk_at "rd"
    refine ⟨by decide, fun p0 hp0 => ⟨⟨_, (same_upd hp0).seq ha⟩, for_listN (xs := cs.map V.int) (fun i σ H1 => (∃ p u2, σ = [some (V.ref a), some (.ref p), u2, none] ∧ H p = none ∧ H1 p = some (.lst ((sumsF (cs.take i)).map V.int))) ∧ Same H H1) ⟨⟨p0, _, rfl, hp0, upd_same⟩, same_upd hp0⟩ ?_ ?_ ?_⟩⟩
    · rintro i σ H1 _ ⟨_, s1⟩
      exact s1.seq ha
    · rintro i v σ H1 N hv ⟨⟨p, u2, rfl, hp, e1⟩, s1⟩ hN
      rw [List.getElem?_map] at hv
      obtain ⟨c, hc, rfl⟩ := Option.map_eq_some_iff.mp hv
      have hi : i < cs.length := (List.getElem?_eq_some_iff.mp hc).1
      have hl : (sumsF (cs.take i)).length ≤ 64 := by
        rw [sums_len, List.length_take, Nat.min_eq_left (Nat.le_of_lt hi)]
        exact (show 2 ^ i ≤ 2 ^ 6 from Nat.pow_le_pow_right (by decide) (by omega))
      walk_at "rd"
      refine ⟨⟨_, SqL.of e1⟩, fun D hD => lc_map (walk_list (xs := (sumsF (cs.take i)).map V.int)) (fun q => .int ((sumsF (cs.take i)).getD q 0 + c)) (by rw [List.length_map]; omega) hD (fun H6 s6 => s6.seq (SqL.of e1)) ?_ fun H2 s2 e2 => ?_⟩
      · rintro q x H6 H7 N2 hq s6 ⟨rfl, ex0⟩ hN2
        rw [List.getElem?_map] at ex0
        obtain ⟨l, hl, rfl⟩ := Option.map_eq_some_iff.mp ex0
        have h := hN2 _ (Same.refl _)
        rw [List.getD_eq_getElem?_getD, hl] at h
        walk_at "rd"
        exact h
      · have e3 : (List.range ((sumsF (cs.take i)).map V.int).length).map (fun q => V.int ((sumsF (cs.take i)).getD q 0 + c)) = ((sumsF (cs.take i)).map (· + c)).map V.int := by
          refine List.ext_getElem (by simp) fun q p1 p2 => ?_
          have hi : q < (sumsF (cs.take i)).length := by simpa using p1
          simp only [List.getElem_map, List.getElem_range]
          rw [List.getD_eq_getElem?_getD, List.getElem?_eq_getElem hi]
          rfl
        rw [e3] at e2
        refine ⟨_, s2 _ _ e1, _, e2, ?_, fun p1 hp1 => hN _ _ ⟨⟨p1, _, rfl, ?_, ?_⟩, (s1.trans s2).trans (same_upd hp1)⟩⟩
        · rw [List.length_map, List.length_map, List.length_map]; exact small (by omega)
        · exact (s1.trans s2).free hp1
        · rw [upd_same, ← List.map_append, sumsF_take hc]
    · rintro σ H1 ⟨⟨p, u2, rfl, hp, e1⟩, s1⟩
      rw [List.length_map, List.take_length] at e1
      walk_at "rd"
      exact ok p H1 s1 hp e1
def sp_lcount (K : PySem.W.Frag) : Sp := fun vs H Q _ => ∃ (a : Addr) (cs : List Int) (cst : Int) (ex : Bool), vs = [.ref a, .int cst, .bl ex] ∧ SqL K H a (cs.map V.int) ∧ cs.length ≤ 6 ∧ ∀ W H', Same H H' → CntOk ex cs (-cst) W → Q (nv W.length) H'
theorem c__law_count {f : Addr} {fd : FuncData} (D : C8.Def K mg "_law_count" s__law_count f fd) (b : Binds K fd ["coefficients", "constant", "exact"] []) (c__law_sums : C8.Cal P w K mg base 1 "_law_sums" (sp_lsums K) []) (z_range : mg "range" = none) (z_len : mg "len" = none) (z_int : mg "int" = none) : C8.Cal P w K mg base 2 "_law_count" (sp_lcount K) [] := by
  refine C8.cal0 D b .nil sc__law_count (fun vs H Q E h => ?_) (fun cdv A outer s H vs Q E hr h => ?_)
  · obtain ⟨_, _, _, _, rfl, _⟩ := h
    rfl
  · obtain ⟨a, cs, cst, ex, rfl, ha, hn, ok⟩ := h
    refine ⟨_, (pss_cons (ps_set (i := 3) sc__law_count.nd rfl (by first | exact Or.inl rfl | exact Or.inr rfl) (C8.pe_c c__law_sums hr (by decide) (by rfl) (pa_cons (pv 0) pa_nil))) (pss_cons (ps_set (i := 4) sc__law_count.nd rfl (by first | exact Or.inl rfl | exact Or.inr rfl) (pe_disp (pps_cons (pe_op op_sub pe_int (pv 1)) pe_bl pps_nil) (by rfl) (by rfl) (by simp) (by decide))) (pss_cons (ps_set (i := 5) sc__law_count.nd rfl (by first | exact Or.inl rfl | exact Or.inr rfl) (pe_lst (pa_cons (pe_op op_sub pe_int (pv 1)) pa_nil))) (pss_cons (ps_set (i := 6) sc__law_count.nd rfl (by first | exact Or.inl rfl | exact Or.inr rfl) pe_int) (pss_cons (ps_for PassesOwn.never rfl (pi_range1 (by rfl) z_range (pa_cons pe_int pa_nil)) (pg_name (i := 7) sc__law_count.nd rfl (by first | exact Or.inl rfl | exact Or.inr rfl)) (pss_one (ps_if (PW.pt (pw_and (pt_cmpR (op_lt) (pv 7) (pe_callB (lenS K) (by rfl) z_len PySem.boot_len (pa_cons (pv 5) pa_nil)) (nomark _)) (pw_and1 (pt_cmpR (op_le) (pe_op op_add (pe_callB lenD (by rfl) z_len PySem.boot_len (pa_cons (pv 4) pa_nil)) (pv 6)) pe_int (nomark _))))) (pss_one (ps_for PassesOwn.never rfl (piL K (pv 3)) (pg_name (i := 8) sc__law_count.nd rfl (by first | exact Or.inl rfl | exact Or.inr rfl)) (pss_cons (ps_set (i := 9) sc__law_count.nd rfl (by first | exact Or.inl rfl | exact Or.inr rfl) (pe_op op_sub (pe_ix (ixL K) (pv 5) (pv 7) (fun _ _ => rfl)) (pv 8))) (pss_one (ps_if (PW.pt (pw_and (pt_val (pv 2)) (pw_and1 (pt_cmpR (op_eq) (pe_op op_mod (pe_callTy call_int1 (by rfl) z_int (by decide +kernel) (pa_cons (pv 9) pa_nil)) pe_int) pe_int (nomark _))))) (pss_one (ps_set (i := 6) sc__law_count.nd rfl (by first | exact Or.inl rfl | exact Or.inr rfl) pe_int)) (pss_one (ps_if (pt_cmp (pc_dnotin (hu1 hr) (pe_op op_fdiv (pv 9) pe_int) (pv 4))) (pss_cons (ps_asg pe_bl (pg_sub (pv 4) (pe_op op_fdiv (pv 9) pe_int) (set_dict (hu1 hr)))) (pss_one (ps_expr (pe_bm PySem.F.plainAttrs_list PySem.F.slot_list_append PySem.F.type_list_append mt_append (pv 5) (pa_cons (pe_op op_fdiv (pv 9) pe_int) pa_nil))))) pss_nil))))))) pss_nil))) (pss_one (ps_ret (pe_op op_add (pe_callB lenD (by rfl) z_len PySem.boot_len (pa_cons (pv 4) pa_nil)) (pv 6))))))))), ?_⟩
    walk_at "rd"
    refine ⟨a, cs, rfl, ha, hn, fun pS H1 s1 hpS eS pD hpD => ⟨upd_same, [(.inl (0 - cst), .bl true)], rfl, by simp, by decide, fun pW hpW => ?_⟩⟩
    have nDS : pS ≠ pD := ne_of_none eS hpD
    have hpD0 : H pD = none := s1.free hpD
    obtain ⟨H0, hH0⟩ : ∃ H0, H0 = upd (upd (upd H1 pD (HO.dK [])) pD (HO.dK (mergeK [] [(.inl (0 - cst), .bl true)]))) pW (HO.lst [V.int (0 - cst)]) := ⟨_, rfl⟩
    have nWD : pW ≠ pD := fun e => by rw [e, upd_same] at hpW; cases hpW
    have hpW1 : H1 pW = none := by rwa [upd_ne nWD, upd_ne nWD] at hpW
    have nWS : pS ≠ pW := ne_of_none eS hpW1
    have hpW0 : H pW = none := s1.free hpW1
    have s0 : Same H H0 := by rw [hH0]; exact Dw.Same.new (Dw.Same.new (Dw.Same.new s1 hpD0) hpD0) hpW0
    have e0S : H0 pS = some (.lst ((sumsF cs).map V.int)) := by rw [hH0, upd_ne nWS, upd_ne nDS, upd_ne nDS]; exact eS
    have e0D : H0 pD = some (.dK (seenT [-cst])) := by rw [hH0, upd_ne (Ne.symm nWD), upd_same, show (0 : Int) - cst = -cst by omega]; rfl
    have e0W : H0 pW = some (.lst ([-cst].map V.int)) := by rw [hH0, upd_same, show (0 : Int) - cst = -cst by omega]; rfl
    rw [← hH0]
    have hS64 : (sumsF cs).length ≤ 64 := by rw [sums_len]; exact (show 2 ^ cs.length ≤ 2 ^ 6 from Nat.pow_le_pow_right (by decide) hn)
    refine ⟨by decide, by decide, for_rangeN (n := 402) (fun i σ H1 => ∃ (ws : List Int) (d : Bool) (u7 u8 u9 : Option V), σ = [some (V.ref a), some (.int cst), some (.bl ex), some (.ref pS), some (.ref pD), some (.ref pW), some (.int (if d = true then 1 else 0)), u7, u8, u9] ∧ Same H H1 ∧ H1 pS = some (.lst ((sumsF cs).map V.int)) ∧ H1 pD = some (.dK (seenT ws)) ∧ H1 pW = some (.lst (ws.map V.int)) ∧ CntI ex cs (-cst) ws d ∧ ws.length ≤ 464 ∧ ((i ≤ ws.length ∧ ∀ k, k < i → ∀ x, ws[k]? = some x → DoneS ex ws d x (sumsF cs)) ∨ 400 < (lsD ws d).length ∨ ∀ k, k < ws.length → ∀ x, ws[k]? = some x → DoneS ex ws d x (sumsF cs))) ⟨[-cst], false, _, _, _, rfl, s0, e0S, e0D, e0W, CntI.start _ _ _, by rw [List.length_singleton]; decide, .inl ⟨Nat.zero_le _, fun k hk => absurd hk (Nat.not_lt_zero _)⟩⟩ ?_ ?_⟩
    · rintro i σ H2 N hi ⟨ws, d, u7, u8, u9, rfl, s2, eS2, eD2, eW2, ci, hl, hP⟩ hN
      rw [Int.zero_add]
      have hlen := lsD_len ws d
      walk_at "rd"
      refine ⟨_, .inl (SqL.of eW2), ?_⟩
      rw [List.length_map]
      refine ite2 (fun hlt => ?_) (fun hge => hN _ _ ⟨ws, d, _, _, _, rfl, s2, eS2, eD2, eW2, ci, hl, ?_⟩)
      rotate_left
      · rcases hP with ⟨h1, h2⟩ | h | h
        · have : i = ws.length := by omega
          subst this
          exact .inr (.inr h2)
        · exact .inr (.inl h)
        · exact .inr (.inr h)
      have hlt : i < ws.length := Int.ofNat_lt.mp hlt
      refine ⟨pD, _, rfl, .inl eD2, ?_⟩
      rw [seenT_len]
      refine ⟨_, rfl, ?_⟩
      refine ite2 (fun h4 => ?_) (fun h4 => ?_)
      rotate_left
      · refine hN _ _ ⟨ws, d, _, _, _, rfl, s2, eS2, eD2, eW2, ci, hl, .inr (.inl ?_)⟩
        rw [hlen]
        cases d <;> simp at h4 ⊢ <;> omega
      have h4 : (lsD ws d).length ≤ 400 := by rw [hlen]; cases d <;> simp at h4 ⊢ <;> omega
      have hP : ∀ k, k < i → ∀ x, ws[k]? = some x → DoneS ex ws d x (sumsF cs) := by
        rcases hP with ⟨_, h⟩ | h | h
        · exact h
        · omega
        · exact fun k hk => h k (by omega)
      obtain ⟨x, hx⟩ : ∃ x, ws[i]? = some x := ⟨_, List.getElem?_eq_getElem hlt⟩
      have hxm := List.mem_of_getElem? hx
      refine ⟨⟨_, SqL.of eS2⟩, for_listN (xs := (sumsF cs).map V.int) (fun j σ H3 => ∃ (m : List Int) (d2 : Bool) (u8 u9 : Option V), σ = [some (V.ref a), some (.int cst), some (.bl ex), some (.ref pS), some (.ref pD), some (.ref pW), some (.int (if d2 = true then 1 else 0)), some (nv i), u8, u9] ∧ Same H H3 ∧ H3 pS = some (.lst ((sumsF cs).map V.int)) ∧ H3 pD = some (.dK (seenT (ws ++ m))) ∧ H3 pW = some (.lst ((ws ++ m).map V.int)) ∧ CntI ex cs (-cst) (ws ++ m) d2 ∧ m.length ≤ j ∧ (d = true → d2 = true) ∧ DoneS ex (ws ++ m) d2 x ((sumsF cs).take j)) ⟨[], d, _, _, rfl, s2, eS2, by rw [List.append_nil]; exact eD2, by rw [List.append_nil]; exact eW2, by rw [List.append_nil]; exact ci, Nat.zero_le _, id, fun _ h => nomatch h⟩ ?_ ?_ ?_⟩
      · rintro j σ H3 _ ⟨_, _, _, _, _, _, e3S, _⟩
        exact SqL.of e3S
      · rintro j v σ H3 N2 hv ⟨m, d2, u8, u9, rfl, s3, e3S, e3D, e3W, ci3, hm, hdd, dn⟩ hN2
        rw [List.getElem?_map] at hv
        obtain ⟨s, hs, rfl⟩ := Option.map_eq_some_iff.mp hv
        have hj : j < (sumsF cs).length := (List.getElem?_eq_some_iff.mp hs).1
        have hsm := List.mem_of_getElem? hs
        have htk : (sumsF cs).take (j + 1) = (sumsF cs).take j ++ [s] := by rw [List.take_add_one, hs]; rfl
        have hxm2 : x ∈ ws ++ m := List.mem_append_left _ hxm
        have hxi : (ws ++ m)[i]? = some x := by rw [List.getElem?_append_left hlt]; exact hx
        walk_at "rd"
        refine ⟨_, SqL.of e3W, _, at_map hxi, _, rfl, ?_⟩
        have fin : ¬ odd? ex x s → (CDiv (x - s) 2 ∧ ∃ x_1, DGet H3 pD (V.int ((x - s) / 2)) x_1 ∧ if x_1.isSome = false then CDiv (x - s) 2 ∧ rSetD (V.ref pD) (V.int ((x - s) / 2)) (V.bl true) H3 (fun H3 => tyV K "list" (V.ref pW) H3 ∧ CDiv (x - s) 2 ∧ ∃ x_2, H3 pW = some (HO.lst x_2) ∧ x_2.length < sizeLine ∧ N2 [some (V.ref a), some (V.int cst), some (V.bl ex), some (V.ref pS), some (V.ref pD), some (V.ref pW), some (V.int (if d2 = true then 1 else 0)), some (nv i), some (V.int s), some (V.int (x - s))] (upd H3 pW (HO.lst (x_2 ++ [V.int ((x - s) / 2)]))))
            else N2 [some (V.ref a), some (V.int cst), some (V.bl ex), some (V.ref pS), some (V.ref pD), some (V.ref pW), some (V.int (if d2 = true then 1 else 0)), some (nv i), some (V.int s), some (V.int (x - s))] H3) := fun o => by
          have cd : CDiv (x - s) 2 := ⟨by decide, by decide⟩
          refine ⟨cd, _, seenT_in e3D, ?_⟩
          by_cases hm2 : (x - s) / 2 ∈ ws ++ m
          · rw [seenT_at _ _ hm2, if_neg (by simp)]
            refine hN2 _ _ ⟨m, d2, _, _, rfl, s3, e3S, e3D, e3W, ci3, by omega, hdd, ?_⟩
            rw [htk]
            exact dn.snoc (fun z => absurd z o) (fun _ => hm2)
          · rw [seenT_no _ _ hm2, if_pos (show (none : Option V).isSome = false from rfl)]
            have hwl : (ws ++ m).length < 1000 := by rw [List.length_append]; omega
            refine ⟨cd, pD, _, rfl, seenT_put e3D hm2 hwl, ?_⟩
            obtain ⟨H4, hH4⟩ : ∃ H4, H4 = upd H3 pD (HO.dK (seenT (ws ++ m ++ [(x - s) / 2]))) := ⟨_, rfl⟩
            rw [← hH4]
            have e4W : H4 pW = some (.lst ((ws ++ m).map V.int)) := by rw [hH4, upd_ne nWD]; exact e3W
            refine ⟨tyL e4W, cd, _, e4W, smallt (by rw [List.length_map]; omega), hN2 _ _ ⟨m ++ [(x - s) / 2], d2, _, _, rfl, Dw.Same.new (by rw [hH4]; exact Dw.Same.new s3 hpD0) hpW0, ?_, ?_, ?_, ?_, by rw [List.length_append, List.length_singleton]; omega, hdd, ?_⟩⟩
            · rw [upd_ne nWS, hH4, upd_ne nDS]; exact e3S
            · rw [upd_ne (Ne.symm nWD), hH4, upd_same, List.append_assoc]
            · rw [upd_same, ← List.append_assoc, List.map_append (l₁ := ws ++ m)]; rfl
            · rw [← List.append_assoc]; exact ci3.add hxm2 hsm o hm2
            · rw [← List.append_assoc, htk]
              exact (dn.more (m := [(x - s) / 2]) id).snoc (fun z => absurd z o) (fun _ => List.mem_append_right _ List.mem_cons_self)
        cases ex with
        | false =>
          rw [if_neg (by decide)]
          exact fin fun z => nomatch z.1
        | true =>
          rw [if_pos rfl]
          refine ⟨by decide, ?_⟩
          by_cases h2 : (x - s) % 2 = 1
          · rw [if_pos h2]
            have o : odd? true x s := ⟨rfl, by omega⟩
            refine hN2 _ _ ⟨m, true, _, _, rfl, s3, e3S, e3D, e3W, ci3.dead hxm2 hsm o, by omega, fun _ => rfl, ?_⟩
            rw [htk]
            have dn2 := dn.more (m := []) (d' := true) (fun _ => rfl)
            rw [List.append_nil] at dn2
            exact dn2.snoc (fun _ => rfl) (fun z => absurd o z)
          · rw [if_neg h2]
            exact fin fun z => z.2 (by omega)
      · rintro σ H3 ⟨m, d2, u8, u9, rfl, s3, e3S, e3D, e3W, ci3, hm, hdd, dn⟩
        rw [List.length_map] at hm
        rw [List.length_map, List.take_length] at dn
        refine hN _ _ ⟨ws ++ m, d2, _, _, _, rfl, s3, e3S, e3D, e3W, ci3, by rw [List.length_append]; rw [hlen] at h4; omega, .inl ⟨by rw [List.length_append]; omega, fun k hk y hy => ?_⟩⟩
        by_cases e : k = i
        · subst e
          rw [List.getElem?_append_left hlt, hx] at hy
          cases hy
          exact dn
        · rw [List.getElem?_append_left (by omega)] at hy
          exact (hP k (by omega) y hy).more hdd
    · rintro σ H2 ⟨ws, d, u7, u8, u9, rfl, s2, eS2, eD2, eW2, ci, hl, hP⟩
      have hlen := lsD_len ws d
      walk_at "rd"
      refine ⟨pD, _, rfl, .inl eD2, _, rfl, ?_⟩
      have h := ok _ H2 s2 (ci.ok fun h4 x hx => ?_)
      · rw [hlen] at h
        rw [seenT_len]
        have e : ((ws.length : Nat) : Int) + (if d = true then (1 : Int) else 0) = ((ws.length + (if d = true then 1 else 0) : Nat) : Int) := by split <;> omega
        rw [e]
        exact h
      · obtain ⟨k, hk⟩ := List.mem_iff_getElem?.mp hx
        have hkl := (List.getElem?_eq_some_iff.mp hk).1
        rcases hP with ⟨h, _⟩ | h | h
        · omega
        · omega
        · exact h k hkl x hk
def sp_lmade (K : PySem.W.Frag) (TBL : List NdefX.NTab) : Sp := fun vs H Q _ => ∃ (a : Addr) (cs : List Int) (cst : Int) (ex : Bool) (W : List (Option Int)), vs = [.ref a, .int cst, .bl ex] ∧ SqL K H a (cs.map V.int) ∧ H a = some (.lst (cs.map V.int)) ∧ cs.length ≤ 6 ∧ NdefX.TabsN TBL H ∧ CntOk ex cs (-cst) W ∧
  (W.length ≤ 400 → ∀ p H', ExtT H H' → NdefX.TabsN TBL H' → H p = none → H' p = some (.lst [nv W.length, nv W.length]) → Q (.ref p) H') ∧ (400 < W.length → ∀ H', ExtT H H' → NdefX.TabsN TBL H' → Q (.str (Str.ofString "states")) H')
theorem c__law_made {f : Addr} {fd : FuncData} (D : C8.Def K mg "_law_made" s__law_made f fd) (b : Binds K fd ["coefficients", "constant", "exact"] []) {COv : Addr} (x_Oversized : ExF P w K mg base "Oversized" COv "limit") (oo : PySem.W.exmOne K (.ref COv) (.ref COv) = some true) {CM : Addr} {TBL : List NdefX.NTab} (c_M : Cls K CM) (n_width : NoAttr K CM "width") (n_table : NoAttr K CM "table") (n_accepting : NoAttr K CM "accepting") (c_equation : CalX P w K mg base 6 "equation" (sp_eqn K CM COv TBL)) (c_at_most : CalX P w K mg base 6 "at_most" (sp_amN K CM COv TBL)) (z_len : mg "len" = none) (z_list : mg "list" = none) : C8.Cal P w K mg base 7 "_law_made" (sp_lmade K TBL) [] := by
  refine C8.cal0 D b .nil sc__law_made (fun vs H Q E h => ?_) (fun cdv A outer s H vs Q E hr h => ?_)
  · obtain ⟨_, _, _, _, _, rfl, _⟩ := h
    rfl
  · obtain ⟨a, cs, cst, ex, W, rfl, hS, ha, hn, htb, co, ok, bad⟩ := h
    refine ⟨_, (pss_one (ps_try_nams rfl rfl sc__law_made.nd (fun W pn xe tk _ => (pss_cons (ps_if (pt_val (pv 2)) (pss_one (ps_set (i := 3) sc__law_made.nd rfl (by first | exact Or.inl rfl | exact Or.inr rfl) (pe_cs c_equation hr (by decide) tk (by rfl) (pa_cons (pe_callTy (listOf K) (by rfl) z_list (by decide +kernel) (pa_cons (pv 0) pa_nil)) (pa_cons (pv 1) pa_nil))))) (pss_one (ps_set (i := 3) sc__law_made.nd rfl (by first | exact Or.inl rfl | exact Or.inr rfl) (pe_cs c_at_most hr (by decide) tk (by rfl) (pa_cons (pe_callTy (listOf K) (by rfl) z_list (by decide +kernel) (pa_cons (pv 0) pa_nil)) (pa_cons (pv 1) pa_nil)))))) (pss_one (ps_ret (pe_lst (pa_cons (pe_callB (lenS K) (by rfl) z_len PySem.boot_len (pa_cons (pe_fd K (pe_ix (ixT K) (pv 3) pe_int (fun _ _ => rfl)) (by rfl)) pa_nil)) (pa_cons (pe_callB (lenS K) (by rfl) z_len PySem.boot_len (pa_cons (pe_ix (ixT K) (pv 3) pe_int (fun _ _ => rfl)) pa_nil)) pa_nil))))))) (NamS.more (i := 4) ⟨by rfl, by decide, .inl x_Oversized.g⟩ rfl rfl (fun a oe cls d pn hz hf => (pss_one (ps_ret (pe_xf x_Oversized.xf x_Oversized.nof hz hf (pv 4))))) NamS.stop))), ?_⟩
    walk_at "rd"
    cases ex with
    | true =>
        rw [if_pos rfl]
        refine ⟨_, .inl (SqL.of ha), fun gv hgv => ?_⟩
        have s7 : Same H (upd H gv (.lst (cs.map V.int))) := same_upd hgv
        by_cases h4 : W.length ≤ 400
        · obtain ⟨clo, hno⟩ := co.clo h4
          refine ⟨gv, cs, cst, W, rfl, SqL.of upd_same, ⟨by omega, clo.1, clo.2⟩, htb.ext s7, fun ls T0 l j ls2 row bf hl ri hj h4' hno => absurd (ri.bound1 hno (clo.2 _ (bf.sub _ (List.mem_of_getElem? hl)) _ hj)) (by omega), fun z m3 L3 f ls3 T3 acc3 H9 X9 tb9 hz hz0 M3 fr3 hk3 hf bf3 al3 hl4 hac hf0 => ?_⟩
          have hlen : ls3.length = W.length := Nat.le_antisymm (nodup_le bf3.nd bf3.sub) (co.len bf3 al3)
          obtain ⟨d3, t3, b3, rs3, _, v1, v2, v3, v4⟩ := M3
          have hrs : rs3.length = W.length := by rw [v3.len]; unfold natT; rw [List.length_map, al3, hlen]
          refine ⟨_, rfl, _, SqT.of hz, _, rfl, ?_⟩
          refine fld_of c_M n_table v1 (mf_t _ _ _) ?_
          refine ⟨_, rfl, _, .inl (SqL.of v2), _, rfl, _, SqT.of hz, _, rfl, _, rfl, _, .inl (SqL.of hf), by decide, fun p hp => ?_⟩
          rw [List.length_map, List.length_map, hrs, hlen]
          have s9 : Same H9 (upd H9 p (.lst [nv W.length, nv W.length])) := same_upd hp
          exact ok h4 p _ (((ExtT.of s7).trans X9).trans (ExtT.of s9)) (tb9.ext s9) (((ExtT.of s7).trans X9).free _ hp) upd_same
        · obtain ⟨U, hU0, hUn, hUc, _⟩ := labN_ok true cs (-cst)
          refine ⟨gv, cs, cst, U, rfl, SqL.of upd_same, ⟨by omega, hU0, hUc⟩, htb.ext s7, fun ls T0 l j ls2 row bf hl ri hj h4' hno d H' X' tb' hd0 hd => ?_, fun z m3 L3 f ls3 T3 acc3 H9 X9 tb9 hz hz0 M3 fr3 hk3 hf bf3 al3 hl4 hac hf0 => absurd (co.len bf3 al3) (by omega)⟩
          simp only [wNamS, unb]
          refine ⟨true, oo, fun _ a' ha' => ?_, (fun q => nomatch q)⟩
          unfold tXf
          walk_at "rd"
          refine ⟨_, hd, .str (Str.ofString "states"), ?_, bad (by omega) _ ((ExtT.of s7).trans X') tb'⟩
          simp
    | false =>
        rw [if_neg (by decide)]
        refine ⟨_, .inl (SqL.of ha), fun gv hgv => ?_⟩
        have s7 : Same H (upd H gv (.lst (cs.map V.int))) := same_upd hgv
        by_cases h4 : W.length ≤ 400
        · obtain ⟨clo, hno⟩ := co.clo h4
          refine ⟨gv, cs, cst, W, rfl, SqL.of upd_same, ⟨by omega, clo.1, hno rfl, clo.2⟩, htb.ext s7, fun ls T0 l j ls2 row bf hl ri hj h4' hno => absurd (ri.bound1 hno (clo.2 _ (bf.sub _ (List.mem_of_getElem? hl)) _ hj)) (by omega), fun z m3 L3 f ls3 T3 acc3 H9 X9 tb9 hz hz0 M3 fr3 hk3 hf bf3 al3 hl4 hac hf0 => ?_⟩
          have hlen : ls3.length = W.length := Nat.le_antisymm (nodup_le bf3.nd bf3.sub) (co.len bf3 al3)
          obtain ⟨d3, t3, b3, rs3, _, v1, v2, v3, v4⟩ := M3
          have hrs : rs3.length = W.length := by rw [v3.len]; unfold natT; rw [List.length_map, al3, hlen]
          refine ⟨_, rfl, _, SqT.of hz, _, rfl, ?_⟩
          refine fld_of c_M n_table v1 (mf_t _ _ _) ?_
          refine ⟨_, rfl, _, .inl (SqL.of v2), _, rfl, _, SqT.of hz, _, rfl, _, rfl, _, .inl (SqL.of hf), by decide, fun p hp => ?_⟩
          rw [List.length_map, List.length_map, hrs, hlen]
          have s9 : Same H9 (upd H9 p (.lst [nv W.length, nv W.length])) := same_upd hp
          exact ok h4 p _ (((ExtT.of s7).trans X9).trans (ExtT.of s9)) (tb9.ext s9) (((ExtT.of s7).trans X9).free _ hp) upd_same
        · obtain ⟨U, hU0, hUn, hUc, _⟩ := labN_ok false cs (-cst)
          refine ⟨gv, cs, cst, U, rfl, SqL.of upd_same, ⟨by omega, hU0, hUn rfl, hUc⟩, htb.ext s7, fun ls T0 l j ls2 row bf hl ri hj h4' hno d H' X' tb' hd0 hd => ?_, fun z m3 L3 f ls3 T3 acc3 H9 X9 tb9 hz hz0 M3 fr3 hk3 hf bf3 al3 hl4 hac hf0 => absurd (co.len bf3 al3) (by omega)⟩
          simp only [wNamS, unb]
          refine ⟨true, oo, fun _ a' ha' => ?_, (fun q => nomatch q)⟩
          unfold tXf
          walk_at "rd"
          refine ⟨_, hd, .str (Str.ofString "states"), ?_, bad (by omega) _ ((ExtT.of s7).trans X') tb'⟩
          simp
def spLaw (K : PySem.W.Frag) (TBL : List NdefX.NTab) : Sp := fun vs H Q _ => ∃ (a : Addr) (ns : List Int), vs = [.ref a] ∧ SqL K H a (ns.map V.int) ∧ ns.length ≤ 63 ∧ NdefX.TabsN TBL H ∧ ∀ H', Q (.bl true) H'
theorem tabs_pool {p q : Addr} {ns : List Int} {TBL : List NdefX.NTab} {H H' : Hp} (t : NdefX.TabsN TBL H) (P : Pool H p q ns) (b : But p H H') : NdefX.TabsN TBL H' := by
  obtain ⟨_, _, _, _, hp, _⟩ := P
  exact tabsN_but t b hp
structure CofB (p q : Addr) (ns : List Int) (TBL : List NdefX.NTab) (cA : Addr) (cs : List Int) (H : Hp) : Prop where
  pool : Pool H p q ns
  tab : NdefX.TabsN TBL H
  hc : H cA = some (.lst (cs.map V.int))
  cne : cA ≠ p
  len : cs.length ≤ 6
theorem CofB.but {p q : Addr} {ns : List Int} {TBL : List NdefX.NTab} {cA : Addr} {cs : List Int} {H H' : Hp} (h : CofB p q ns TBL cA cs H) (b : But p H H') (P : Pool H' p q ns) : CofB p q ns TBL cA cs H' := ⟨P, tabs_pool h.tab h.pool b, b _ _ h.cne h.hc, h.cne, h.len⟩
theorem CofB.same {p q : Addr} {ns : List Int} {TBL : List NdefX.NTab} {cA : Addr} {cs : List Int} {H H' : Hp} (h : CofB p q ns TBL cA cs H) (s : Same H H') : CofB p q ns TBL cA cs H' := ⟨h.pool.same s, h.tab.ext s, s _ _ h.hc, h.cne, h.len⟩
theorem f_law {f : Addr} {fd : FuncData} (D : C8.Def K mg "law" s_law f fd) (c__law_take : C8.Cal P w K mg base 2 "_law_take" sp_take []) (c__law_pool : C8.Cal P w K mg base 1 "_law_pool" (sp_pool K) []) {TBL : List NdefX.NTab} (c__law_count : C8.Cal P w K mg base 2 "_law_count" (sp_lcount K) []) (c__law_made : C8.Cal P w K mg base 7 "_law_made" (sp_lmade K TBL) []) (z_range : mg "range" = none) (z_abs : mg "abs" = none) : FnOk P w K mg base C8.CX0 9 f fd ["script"] (spLaw K TBL) := by
  refine C8.fn0 D.fn sc_law (fun vs H Q E h => ?_) (fun cdv A outer s H vs Q E hr h => ?_)
  · obtain ⟨_, _, rfl, _⟩ := h
    rfl
  · obtain ⟨a0, ns, rfl, hS, hn, htb, ok⟩ := h
    refine ⟨_, (pss_cons (ps_set (i := 1) sc_law.nd rfl (by first | exact Or.inl rfl | exact Or.inr rfl) (C8.pe_c c__law_pool hr (by decide) (by rfl) (pa_cons (pv 0) pa_nil))) (pss_cons (ps_setLc (i := 2) (own := [("k", 8)]) (g := (gName 8)) (tt := tYes) rfl sc_law.nd rfl rfl (sw_true rfl rfl rfl (by decide +kernel)) (pi_range1 (by rfl) z_range (pa_cons (pe_op op_add pe_int (C8.pe_c c__law_take hr (by decide) (by rfl) (pa_cons (pv 1) (pa_cons pe_int pa_nil)))) pa_nil)) (blkOk_by (N := N_law) (sc := C8.fnScope s_law) (by decide +kernel)) (fun _ _ _ _ _ => (pg_name (i := 8) sc_law.nd rfl (by first | exact Or.inl rfl | exact Or.inr rfl))) (fun _ _ _ _ _ => pts_nil) (fun _ _ _ _ _ => (pe_op op_sub (C8.pe_c c__law_take hr (by decide) (by rfl) (pa_cons (pv 1) (pa_cons pe_int pa_nil))) pe_int))) (C8.pss_cut (ps_if (pt_cmpR (op_eq) (C8.pe_c c__law_take hr (by decide) (by rfl) (pa_cons (pv 1) (pa_cons pe_int pa_nil))) pe_int (nomark _)) (pss_cons (ps_set (i := 3) sc_law.nd rfl (by first | exact Or.inl rfl | exact Or.inr rfl) (pe_op op_add pe_int (C8.pe_c c__law_take hr (by decide) (by rfl) (pa_cons (pv 1) (pa_cons pe_int pa_nil))))) (pss_cons (ps_set (i := 2) sc_law.nd rfl (by first | exact Or.inl rfl | exact Or.inr rfl) (pe_lst (pa_cons (pv 3) (pa_cons (pe_op op_mul (pe_ix (ixL K) (pe_lst (pa_cons pe_int (pa_cons (pe_un un_neg pe_int) pa_nil))) (C8.pe_c c__law_take hr (by decide) (by rfl) (pa_cons (pv 1) (pa_cons pe_int pa_nil))) (fun _ _ => rfl)) (pe_op op_sub (pe_op op_add pe_int (C8.pe_c c__law_take hr (by decide) (by rfl) (pa_cons (pv 1) (pa_cons pe_int pa_nil)))) (pv 3))) pa_nil)))) (pss_one (ps_if (pt_cmpR (op_gt) (pe_callB call_abs (by rfl) z_abs (by decide +kernel) (pa_cons (pe_ix (ixL K) (pv 2) pe_int (fun _ _ => rfl)) pa_nil)) pe_int (nomark _)) (pss_one (ps_set (i := 2) sc_law.nd rfl (by first | exact Or.inl rfl | exact Or.inr rfl) (pe_lst (pa_cons pe_int (pa_cons (pe_op op_sub (pe_un un_neg pe_int) (C8.pe_c c__law_take hr (by decide) (by rfl) (pa_cons (pv 1) (pa_cons pe_int pa_nil)))) pa_nil))))) pss_nil)))) pss_nil) (C8.pss_cut (ps_set (i := 4) sc_law.nd rfl (by first | exact Or.inl rfl | exact Or.inr rfl) (pe_ix (ixL K) (pe_lst (pa_cons pe_int (pa_cons pe_int (pa_cons pe_int (pa_cons (pe_un un_neg pe_int) (pa_cons (pe_op op_sub (C8.pe_c c__law_take hr (by decide) (by rfl) (pa_cons (pv 1) (pa_cons pe_int pa_nil))) pe_int) pa_nil)))))) (C8.pe_c c__law_take hr (by decide) (by rfl) (pa_cons (pv 1) (pa_cons pe_int pa_nil))) (fun _ _ => rfl))) (pss_cons (ps_for PassesOwn.never rfl (piL K (pe_lst (pa_cons pe_bl (pa_cons pe_bl pa_nil)))) (pg_name (i := 5) sc_law.nd rfl (by first | exact Or.inl rfl | exact Or.inr rfl)) (pss_cons (ps_set (i := 6) sc_law.nd rfl (by first | exact Or.inl rfl | exact Or.inr rfl) (C8.pe_c c__law_count hr (by decide) (by rfl) (pa_cons (pv 2) (pa_cons (pv 4) (pa_cons (pv 5) pa_nil))))) (C8.pss_cut (ps_set (i := 7) sc_law.nd rfl (by first | exact Or.inl rfl | exact Or.inr rfl) (C8.pe_c c__law_made hr (by decide) (by rfl) (pa_cons (pv 2) (pa_cons (pv 4) (pa_cons (pv 5) pa_nil))))) (pss_cons (ps_if (PW.pt (pw_and (pt_cmpR (op_gt) (pv 6) pe_int (nomark _)) (pw_and1 (pt_cmpR (op_ne) (pv 7) pe_str (nomark _))))) (pss_one (ps_ret pe_bl)) pss_nil) (pss_one (ps_if (PW.pt (pw_and (pt_cmpR (op_le) (pv 6) pe_int (nomark _)) (pw_and1 (pt_cmpR (neDK K (hu64 hr)) (pv 7) (pe_lst (pa_cons (pv 6) (pa_cons (pv 6) pa_nil))) (nomark _))))) (pss_one (ps_ret pe_bl)) pss_nil)))))) (pss_one (ps_ret pe_bl))))))), ?_⟩
    walk_at "rd"
    refine ⟨a0, ns, rfl, hS, fun p q H1 s1 hp0 hq0 P1 => ?_⟩
    have tb1 := htb.ext s1
    clear s1 hp0 hq0 htb
    refine ⟨p, q, ns, 3, rfl, P1, by decide, by decide, fun ki H2 k0 k1 b2 P2 => ⟨_, rfl, by omega, by omega, fun D hD => ?_⟩⟩
    have tb2 := tabs_pool tb1 P1 b2
    have nDp := P2.ne hD
    have nDq := P2.neq hD
    have s2 : Same H2 (upd H2 D (HO.lst [])) := same_upd hD
    refine lc_rangeN (fun i H3 => ∃ cs : List Int, cs.length = i ∧ H3 D = some (.lst (cs.map V.int)) ∧ Pool H3 p q ns ∧ NdefX.TabsN TBL H3) ⟨[], rfl, upd_same, P2.same s2, tb2.ext s2⟩ ?_ ?_
    · rintro i H3 N hi ⟨cs, hcl, e3, P3, tb3⟩ hN
      walk_at "rd"
      refine ⟨p, q, ns, 511, rfl, P3, by decide, by decide, fun ci H4 c0 c1 b4 P4 => ⟨_, rfl, _, b4 _ _ nDp e3, by rw [List.length_map]; exact smallt (by omega), hN _ ⟨cs ++ [ci - 255], by rw [List.length_append, hcl]; rfl, by rw [upd_same, List.map_append]; rfl, P4.set nDp nDq, tabsN_but (tabs_pool tb3 P3 b4) But.upd (b4 _ _ nDp e3)⟩⟩⟩
    rintro H3 ⟨cs, hcl, e3, P3, tb3⟩
    have B3 : CofB p q ns TBL D cs H3 := ⟨P3, tb3, e3, nDp, by omega⟩
    clear e3 P3 tb3 P2 P1 tb1 tb2 hcl
    refine cut_by (fun σ' H' => ∃ (cA : Addr) (cs : List Int) (u3 : Option V), [some (V.ref a0), some (.ref p), some (.ref cA), u3, none, none, none, none, none] = σ' ∧ CofB p q ns TBL cA cs H') (fun N hN => ?_) ?_
    · walk_at "rd"
      refine ⟨p, q, ns, 2, rfl, B3.pool, by decide, by decide, fun x H4 x0 x1 b4 P4 => ?_⟩
      have B4 := B3.but b4 P4
      clear P4 b4 x0 x1 B3
      refine ⟨rfl, ite2 (fun _ => ?_) (fun _ => hN _ _ ⟨_, _, _, rfl, B4⟩)⟩
      refine ⟨p, q, ns, 100, rfl, B4.pool, by decide, by decide, fun x1 H5 x10 x11 b5 P5 => ⟨_, rfl, by decide, fun q1 hq1 => ?_⟩⟩
      have B5 := B4.but b5 P5
      have s6 : Same H5 (upd H5 q1 (HO.lst [V.int 1, V.int (-1)])) := same_upd hq1
      have B6 := B5.same s6
      have nq1 := P5.ne hq1
      clear b5 P5
      refine ⟨p, q, ns, 2, rfl, B6.pool, by decide, by decide, fun ci H7 c0 c1 b7 P7 => ?_⟩
      have B7 := B6.but b7 P7
      have e7 := b7 _ _ nq1 (upd_same (H := H5) (a := q1))
      obtain ⟨v, hv, hv2⟩ : ∃ v : Int, atI [V.int 1, V.int (-1)] ci = some (.int v) ∧ (-1 ≤ v ∧ v ≤ 1) := by
        rcases (by omega : ci = 0 ∨ ci = 1) with rfl | rfl <;> exact ⟨_, rfl, by decide, by decide⟩
      refine ⟨_, _, rfl, SqL.of e7, _, hv, p, q, ns, 41, rfl, B7.pool, by decide, by decide, fun x4 H8 x40 x41 b8 P8 => ⟨_, rfl, _, rfl, .inl ⟨by omega, by omega⟩, by decide, fun q2 hq2 => ?_⟩⟩
      have B8 := B7.but b8 P8
      obtain ⟨y, hy⟩ : ∃ y, y = v * (380 + x4 - (150 + x1)) := ⟨_, rfl⟩
      rw [← hy]
      have s9 : Same H8 (upd H8 q2 (HO.lst [V.int (150 + x1), V.int y])) := same_upd hq2
      have e9 : (upd H8 q2 (HO.lst [V.int (150 + x1), V.int y])) q2 = some (.lst ([150 + x1, y].map V.int)) := upd_same
      have B9 : CofB p q ns TBL q2 [150 + x1, y] (upd H8 q2 (HO.lst [V.int (150 + x1), V.int y])) := ⟨P8.same s9, B8.tab.ext s9, e9, P8.ne hq2, by simp⟩
      refine ⟨_, SqL.of e9, _, rfl, _, rfl, ite2 (fun _ => ?_) (fun _ => hN _ _ ⟨_, _, _, rfl, B9⟩)⟩
      refine ⟨p, q, ns, 21, rfl, B9.pool, by decide, by decide, fun x5 Ha x50 x51 ba Pa => ⟨_, rfl, by decide, fun q3 hq3 => ?_⟩⟩
      have Ba := B9.but ba Pa
      have sb : Same Ha (upd Ha q3 (HO.lst [V.int 200, V.int (-190 - x5)])) := same_upd hq3
      exact hN _ _ ⟨q3, [200, -190 - x5], _, rfl, Pa.same sb, Ba.tab.ext sb, upd_same, Pa.ne hq3, by simp⟩
    rintro σ' H4 ⟨cA, cs, u3, rfl, B4⟩
    clear B3 hD nDp nDq s2
    refine cut_by (fun σ' H' => ∃ cst : Int, [some (V.ref a0), some (.ref p), some (.ref cA), u3, some (.int cst), none, none, none, none] = σ' ∧ CofB p q ns TBL cA cs H') (fun N hN => ?_) ?_
    · walk_at "rd"
      refine ⟨p, q, ns, 511, rfl, B4.pool, by decide, by decide, fun x H6 x0 x1 b6 P6 => ⟨_, rfl, by decide, fun q6 hq6 => ?_⟩⟩
      have B6 := B4.but b6 P6
      have s6 : Same H6 (upd H6 q6 (HO.lst [V.int 0, V.int 1, V.int 255, V.int (-255), V.int (x - 255)])) := same_upd hq6
      refine ⟨p, q, ns, 5, rfl, P6.same s6, by decide, by decide, fun ci H8 c0 c1 b8 P8 => ?_⟩
      have e8 := b8 _ _ (P6.ne hq6) (upd_same (H := H6) (a := q6))
      obtain ⟨v, hv⟩ : ∃ v : Int, atI [V.int 0, V.int 1, V.int 255, V.int (-255), V.int (x - 255)] ci = some (.int v) := by
        rcases (by omega : ci = 0 ∨ ci = 1 ∨ ci = 2 ∨ ci = 3 ∨ ci = 4) with rfl | rfl | rfl | rfl | rfl <;> exact ⟨_, rfl⟩
      exact ⟨_, _, rfl, SqL.of e8, _, hv, hN _ _ ⟨v, rfl, (B6.same s6).but b8 P8⟩⟩
    rintro σ' H5 ⟨cst, rfl, B5⟩
    obtain ⟨P5, tb5, e5, _, hcl⟩ := B5
    clear P5 B4
    walk_at "rd"
    refine ⟨by decide, fun qL hqL => ?_⟩
    have s5 : Same H5 (upd H5 qL (HO.lst [V.bl true, V.bl false])) := same_upd hqL
    have e5 := s5 _ _ e5
    have tb5 := tb5.ext s5
    have eq5 : (upd H5 qL (HO.lst [V.bl true, V.bl false])) qL = some (.lst ([true, false].map V.bl)) := upd_same
    obtain ⟨H6, hH6⟩ : ∃ H6, H6 = upd H5 qL (HO.lst [V.bl true, V.bl false]) := ⟨_, rfl⟩
    rw [← hH6] at s5 e5 tb5 eq5 ⊢
    clear hH6
    refine ⟨⟨_, SqL.of eq5⟩, for_listN (xs := [true, false].map V.bl) (fun i σ H1 => (∃ u5 u6 u7, σ = [some (V.ref a0), some (.ref p), some (.ref cA), u3, some (.int cst), u5, u6, u7, none]) ∧ ExtT H6 H1 ∧ NdefX.TabsN TBL H1) ⟨⟨_, _, _, rfl⟩, ExtT.of (Same.refl _), tb5⟩ ?_ ?_ ?_⟩
    · rintro i σ H1 _ ⟨_, X1, _⟩
      exact SqL.of (X1.lst eq5)
    · rintro i v σ H1 N hv ⟨⟨u5, u6, u7, rfl⟩, X1, tb1⟩ hN
      rw [List.getElem?_map] at hv
      obtain ⟨ex, hex, rfl⟩ := Option.map_eq_some_iff.mp hv
      have e1 := X1.lst e5
      walk_at "rd"
      refine ⟨cA, cs, cst, ex, rfl, SqL.of e1, hcl, fun W H2 s2 co => ?_⟩
      have e2 := s2 _ _ e1
      have tb2 := tb1.ext s2
      have X2 := X1.trans (ExtT.of s2)
      refine cut_by (fun σ' H' => (∃ mv, [some (V.ref a0), some (.ref p), some (.ref cA), u3, some (.int cst), some (.bl ex), some (nv W.length), some mv, none] = σ' ∧ ((W.length ≤ 400 ∧ ∃ pm, mv = .ref pm ∧ H' pm = some (.lst [nv W.length, nv W.length])) ∨ (400 < W.length ∧ mv = .str (Str.ofString "states")))) ∧ ExtT H6 H' ∧ NdefX.TabsN TBL H') (fun N2 hN2 => ?_) ?_
      · walk_at "rd"
        refine ⟨cA, cs, cst, ex, W, rfl, SqL.of e2, e2, hcl, tb2, co, fun h4 pm H3 X3 tb3 hpm em => hN2 _ _ ⟨⟨_, rfl, .inl ⟨h4, pm, rfl, em⟩⟩, X2.trans X3, tb3⟩, fun h4 H3 X3 tb3 => hN2 _ _ ⟨⟨_, rfl, .inr ⟨h4, rfl⟩⟩, X2.trans X3, tb3⟩⟩
      rintro σ' H3 ⟨⟨mv, rfl, hmv⟩, X3, tb3⟩
      rcases hmv with ⟨h4, pm, rfl, em⟩ | ⟨h4, rfl⟩
      · walk_at "rd"
        rw [if_neg (by omega), if_pos (by omega)]
        refine ⟨by decide, fun p1 hp1 => ?_⟩
        have s4 : Same H3 (upd H3 p1 (HO.lst [nv W.length, nv W.length])) := same_upd hp1
        refine neD_of (.lst (SqL.of (s4 _ _ em)) (ints_dp [(W.length : Int), (W.length : Int)])) (.lst (SqL.of upd_same) (ints_dp [(W.length : Int), (W.length : Int)])) (ints_shaped _) ⟨false, rfl, ?_⟩
        rw [if_neg (by decide)]
        exact hN _ _ ⟨⟨_, _, _, rfl⟩, X3.trans (ExtT.of s4), tb3.ext s4⟩
      · walk_at "rd"
        rw [if_pos (by omega), if_neg (by omega)]
        exact hN _ _ ⟨⟨_, _, _, rfl⟩, X3, tb3⟩
    · rintro σ H1 ⟨⟨u5, u6, u7, rfl⟩, _⟩
      walk_at "rd"
      exact ok _

end
abbrev si_Oversized : Stmt := (C8.clsBody (topS 6)).getD 0 (.Pass ⟨0, 0, 0, 0⟩)
theorem sci_Oversized : FnScope ["self", "limit"] ["self", "limit"] (C8.fnScope si_Oversized) := C8.fnScope_by (by decide +kernel)
theorem f_ini_Oversized {P : Program} {w : World} {K : PySem.W.Frag} {mg : Str → Option Value} {base : Heap} {C fI : Addr} {fd : FuncData} (T : OexC K C) (nof : PySem.W.findIn K (.ref C) "limit" = some none) (F : C8.Fun K "__init__" "Oversized.__init__" si_Oversized fI fd) : FnOk P w K mg base C8.CX0 1 fI fd ["self", "limit"] (sp_init C "limit") := by
  refine C8.fn0 F sci_Oversized (fun vs H Q E h => ?_) (fun cdv A outer s H vs Q E hr h => ?_)
  · obtain ⟨_, _, rfl, _⟩ := h
    rfl
  · obtain ⟨a, v, rfl, ha, ok⟩ := h
    exact ⟨_, pss_one (ps_ost (pv 0) (pv 1)), v, rfl, .ref a, rfl, a, C, rfl, T, nof, .inl ⟨ha, ok⟩⟩
theorem all_mk {l : PySem.W.OpenLaw} {w : World} {K : PySem.W.Frag} {h : Heap} {mg : Str → Option Value} {fa : Addr} (X : K.In h) (G : h.Ns mainGlobals mg) (hfa : mg "law" = some (.ref fa))
    {CM : Addr}
    {f0 : Addr} {od0 an0 : Option Addr} {sl0 : Array (Option Value)} {oc0 kV0 dc0 pm0 cd0 ct0 : Value}
    {f1 : Addr} {od1 an1 : Option Addr} {sl1 : Array (Option Value)} {oc1 kV1 dc1 pm1 cd1 ct1 : Value}
    {f2 : Addr} {od2 an2 : Option Addr} {sl2 : Array (Option Value)} {oc2 kV2 dc2 pm2 cd2 ct2 : Value}
    {f3 : Addr} {od3 an3 : Option Addr} {sl3 : Array (Option Value)} {oc3 kV3 dc3 pm3 cd3 ct3 : Value}
    {f4 : Addr} {od4 an4 : Option Addr} {sl4 : Array (Option Value)} {oc4 kV4 dc4 pm4 cd4 ct4 : Value}
    {f5 : Addr} {od5 an5 : Option Addr} {sl5 : Array (Option Value)} {oc5 kV5 dc5 pm5 cd5 ct5 : Value}
    {f6 : Addr} {od6 an6 : Option Addr} {sl6 : Array (Option Value)} {oc6 kV6 dc6 pm6 cd6 ct6 : Value}
    {f7 : Addr} {od7 an7 : Option Addr} {sl7 : Array (Option Value)} {oc7 kV7 dc7 pm7 cd7 ct7 : Value}
    {f8 : Addr} {od8 an8 : Option Addr} {sl8 : Array (Option Value)} {oc8 kV8 dc8 pm8 cd8 ct8 : Value}
    {f9 : Addr} {od9 an9 : Option Addr} {sl9 : Array (Option Value)} {oc9 kV9 dc9 pm9 cd9 ct9 : Value}
    {f10 : Addr} {od10 an10 : Option Addr} {sl10 : Array (Option Value)} {oc10 kV10 dc10 pm10 cd10 ct10 : Value}
    {f11 : Addr} {od11 an11 : Option Addr} {sl11 : Array (Option Value)} {oc11 kV11 dc11 pm11 cd11 ct11 : Value}
    {f12 : Addr} {od12 an12 : Option Addr} {sl12 : Array (Option Value)} {oc12 kV12 dc12 pm12 cd12 ct12 : Value}
    {f13 : Addr} {od13 an13 : Option Addr} {sl13 : Array (Option Value)} {oc13 kV13 dc13 pm13 ct13 : Value}
    {f14 : Addr} {od14 an14 : Option Addr} {sl14 : Array (Option Value)} {oc14 kV14 dc14 pm14 cd14 ct14 : Value}
    {f15 : Addr} {od15 an15 : Option Addr} {sl15 : Array (Option Value)} {oc15 kV15 dc15 pm15 cd15 ct15 : Value}
    {f16 : Addr} {od16 an16 : Option Addr} {sl16 : Array (Option Value)} {oc16 kV16 dc16 pm16 cd16 ct16 : Value}
    {f17 : Addr} {od17 an17 : Option Addr} {sl17 : Array (Option Value)} {oc17 kV17 dc17 pm17 cd17 ct17 : Value}
    {f18 : Addr} {od18 an18 : Option Addr} {sl18 : Array (Option Value)} {oc18 kV18 dc18 pm18 cd18 ct18 : Value}
    {f19 : Addr} {od19 an19 : Option Addr} {sl19 : Array (Option Value)} {oc19 kV19 dc19 pm19 cd19 ct19 : Value}
    {t_STATES : Tok}
    {t_TRACKS : Tok}
    {COv fI_Oversized : Addr} {nm_Oversized q_Oversized : Str} {N_Oversized : Addr} {bs_Oversized bm_Oversized : List Value} {sn_Oversized : List Str} {sub_Oversized : List Value} {ab_Oversized : Bool} {col_Oversized : Option Bool} {dd_Oversized : Option Addr} {m0_Oversized m1_Oversized m2_Oversized m3_Oversized m5_Oversized : Option Value} {odi_Oversized ani_Oversized : Option Addr} {sli_Oversized : Array (Option Value)} {oci_Oversized kVi_Oversized dci_Oversized pmi_Oversized cdi_Oversized cti_Oversized : Value}
     {cB PtL : Addr}
    (aC_Machine : PySem.W.nsIn K mainGlobals "Machine" = some (some (.ref CM))) (pg_Machine : PySem.W.plainGet K CM Str.empty = true) (hd_Machine : PySem.W.hasDictIn K CM = true) (po_Machine : PySem.W.plainOver K CM = true) (sa_Machine : PySem.W.findIn K (.ref CM) "__setattr__" = some (some (.builtin "object.__setattr__"))) (mk_Machine : PySem.W.makesIn K CM = true) (kc_Machine : PySem.W.keepIn K (.ref CM) = true) (no0_Machine : PySem.W.findIn K (.ref CM) "width" = some none) (no1_Machine : PySem.W.findIn K (.ref CM) "table" = some none) (no2_Machine : PySem.W.findIn K (.ref CM) "accepting" = some none)
    (a0 : PySem.W.nsIn K mainGlobals "is_state" = some (some (.ref f0))) (l0 : K.lookup f0 = some ⟨oc0, od0, .func (PySem.W.fnOf "is_state" "is_state" (C8.fnArgs s_is_state) (C8.fnBody s_is_state) (C8.fnScope s_is_state) .none kV0 dc0 pm0 an0 cd0 ct0), sl0⟩) (c0 : PySem.W.codeIn K cd0 "is_state" = true) (k0 : PySem.W.keepIn K (.ref f0) = true)
    (a1 : PySem.W.nsIn K mainGlobals "is_table" = some (some (.ref f1))) (l1 : K.lookup f1 = some ⟨oc1, od1, .func (PySem.W.fnOf "is_table" "is_table" (C8.fnArgs s_is_table) (C8.fnBody s_is_table) (C8.fnScope s_is_table) .none kV1 dc1 pm1 an1 cd1 ct1), sl1⟩) (c1 : PySem.W.codeIn K cd1 "is_table" = true) (k1 : PySem.W.keepIn K (.ref f1) = true)
    (a2 : PySem.W.nsIn K mainGlobals "letters" = some (some (.ref f2))) (l2 : K.lookup f2 = some ⟨oc2, od2, .func (PySem.W.fnOf "letters" "letters" (C8.fnArgs s_letters) (C8.fnBody s_letters) (C8.fnScope s_letters) .none kV2 dc2 pm2 an2 cd2 ct2), sl2⟩) (c2 : PySem.W.codeIn K cd2 "letters" = true) (k2 : PySem.W.keepIn K (.ref f2) = true)
    (a3 : PySem.W.nsIn K mainGlobals "check_width" = some (some (.ref f3))) (l3 : K.lookup f3 = some ⟨oc3, od3, .func (PySem.W.fnOf "check_width" "check_width" (C8.fnArgs s_check_width) (C8.fnBody s_check_width) (C8.fnScope s_check_width) .none kV3 dc3 pm3 an3 cd3 ct3), sl3⟩) (c3 : PySem.W.codeIn K cd3 "check_width" = true) (k3 : PySem.W.keepIn K (.ref f3) = true)
    (a4 : PySem.W.findIn K (.ref CM) "__init__" = some (some (.ref f4))) (i4 : PySem.W.isFn K (.ref f4) = true) (l4 : K.lookup f4 = some ⟨oc4, od4, .func (PySem.W.fnOf "__init__" "Machine.__init__" (C8.fnArgs s_Machine___init__) (C8.fnBody s_Machine___init__) (C8.fnScope s_Machine___init__) .none kV4 dc4 pm4 an4 cd4 ct4), sl4⟩) (c4 : PySem.W.codeIn K cd4 "Machine.__init__" = true) (k4 : PySem.W.keepIn K (.ref f4) = true)
    (a5 : PySem.W.nsIn K mainGlobals "digit" = some (some (.ref f5))) (l5 : K.lookup f5 = some ⟨oc5, od5, .func (PySem.W.fnOf "digit" "digit" (C8.fnArgs s_digit) (C8.fnBody s_digit) (C8.fnScope s_digit) .none kV5 dc5 pm5 an5 cd5 ct5), sl5⟩) (c5 : PySem.W.codeIn K cd5 "digit" = true) (k5 : PySem.W.keepIn K (.ref f5) = true)
    (a6 : PySem.W.nsIn K mainGlobals "_law_wide" = some (some (.ref f6))) (l6 : K.lookup f6 = some ⟨oc6, od6, .func (PySem.W.fnOf "_law_wide" "_law_wide" (C8.fnArgs s__law_wide) (C8.fnBody s__law_wide) (C8.fnScope s__law_wide) .none kV6 dc6 pm6 an6 cd6 ct6), sl6⟩) (c6 : PySem.W.codeIn K cd6 "_law_wide" = true) (k6 : PySem.W.keepIn K (.ref f6) = true)
    (a7 : PySem.W.nsIn K mainGlobals "_law_take" = some (some (.ref f7))) (l7 : K.lookup f7 = some ⟨oc7, od7, .func (PySem.W.fnOf "_law_take" "_law_take" (C8.fnArgs s__law_take) (C8.fnBody s__law_take) (C8.fnScope s__law_take) .none kV7 dc7 pm7 an7 cd7 ct7), sl7⟩) (c7 : PySem.W.codeIn K cd7 "_law_take" = true) (k7 : PySem.W.keepIn K (.ref f7) = true)
    (a8 : PySem.W.nsIn K mainGlobals "_law_pool" = some (some (.ref f8))) (l8 : K.lookup f8 = some ⟨oc8, od8, .func (PySem.W.fnOf "_law_pool" "_law_pool" (C8.fnArgs s__law_pool) (C8.fnBody s__law_pool) (C8.fnScope s__law_pool) .none kV8 dc8 pm8 an8 cd8 ct8), sl8⟩) (c8 : PySem.W.codeIn K cd8 "_law_pool" = true) (k8 : PySem.W.keepIn K (.ref f8) = true)
    (a9 : PySem.W.nsIn K mainGlobals "label_behind" = some (some (.ref f9))) (l9 : K.lookup f9 = some ⟨oc9, od9, .func (PySem.W.fnOf "label_behind" "label_behind" (C8.fnArgs s_label_behind) (C8.fnBody s_label_behind) (C8.fnScope s_label_behind) .none kV9 dc9 pm9 an9 cd9 ct9), sl9⟩) (c9 : PySem.W.codeIn K cd9 "label_behind" = true) (k9 : PySem.W.keepIn K (.ref f9) = true)
    (a10 : PySem.W.nsIn K mainGlobals "is_accepting" = some (some (.ref f10))) (l10 : K.lookup f10 = some ⟨oc10, od10, .func (PySem.W.fnOf "is_accepting" "is_accepting" (C8.fnArgs s_is_accepting) (C8.fnBody s_is_accepting) (C8.fnScope s_is_accepting) .none kV10 dc10 pm10 an10 cd10 ct10), sl10⟩) (c10 : PySem.W.codeIn K cd10 "is_accepting" = true) (k10 : PySem.W.keepIn K (.ref f10) = true)
    (a11 : PySem.W.nsIn K mainGlobals "weights" = some (some (.ref f11))) (l11 : K.lookup f11 = some ⟨oc11, od11, .func (PySem.W.fnOf "weights" "weights" (C8.fnArgs s_weights) (C8.fnBody s_weights) (C8.fnScope s_weights) .none kV11 dc11 pm11 an11 cd11 ct11), sl11⟩) (c11 : PySem.W.codeIn K cd11 "weights" = true) (k11 : PySem.W.keepIn K (.ref f11) = true)
    (a12 : PySem.W.nsIn K mainGlobals "reached" = some (some (.ref f12))) (l12 : K.lookup f12 = some ⟨oc12, od12, .func (PySem.W.fnOf "reached" "reached" (C8.fnArgs s_reached) (C8.fnBody s_reached) (C8.fnScope s_reached) .none kV12 dc12 pm12 an12 cd12 ct12), sl12⟩) (c12 : PySem.W.codeIn K cd12 "reached" = true) (k12 : PySem.W.keepIn K (.ref f12) = true)
    (a13 : PySem.W.nsIn K mainGlobals "labelled" = some (some (.ref f13))) (l13 : K.lookup f13 = some ⟨oc13, od13, .func (PySem.W.fnOf "labelled" "labelled" (C8.fnArgs s_labelled) (C8.fnBody s_labelled) (C8.fnScope s_labelled) .none kV13 dc13 pm13 an13 (.ref cB) ct13), sl13⟩) (c13 : PySem.W.codeIn K (.ref cB) "labelled" = true) (k13 : PySem.W.keepIn K (.ref f13) = true)
    (a14 : PySem.W.nsIn K mainGlobals "equation" = some (some (.ref f14))) (l14 : K.lookup f14 = some ⟨oc14, od14, .func (PySem.W.fnOf "equation" "equation" (C8.fnArgs s_equation) (C8.fnBody s_equation) (C8.fnScope s_equation) .none kV14 dc14 pm14 an14 cd14 ct14), sl14⟩) (c14 : PySem.W.codeIn K cd14 "equation" = true) (k14 : PySem.W.keepIn K (.ref f14) = true)
    (a15 : PySem.W.nsIn K mainGlobals "at_most" = some (some (.ref f15))) (l15 : K.lookup f15 = some ⟨oc15, od15, .func (PySem.W.fnOf "at_most" "at_most" (C8.fnArgs s_at_most) (C8.fnBody s_at_most) (C8.fnScope s_at_most) .none kV15 dc15 pm15 an15 cd15 ct15), sl15⟩) (c15 : PySem.W.codeIn K cd15 "at_most" = true) (k15 : PySem.W.keepIn K (.ref f15) = true)
    (a16 : PySem.W.nsIn K mainGlobals "_law_sums" = some (some (.ref f16))) (l16 : K.lookup f16 = some ⟨oc16, od16, .func (PySem.W.fnOf "_law_sums" "_law_sums" (C8.fnArgs s__law_sums) (C8.fnBody s__law_sums) (C8.fnScope s__law_sums) .none kV16 dc16 pm16 an16 cd16 ct16), sl16⟩) (c16 : PySem.W.codeIn K cd16 "_law_sums" = true) (k16 : PySem.W.keepIn K (.ref f16) = true)
    (a17 : PySem.W.nsIn K mainGlobals "_law_count" = some (some (.ref f17))) (l17 : K.lookup f17 = some ⟨oc17, od17, .func (PySem.W.fnOf "_law_count" "_law_count" (C8.fnArgs s__law_count) (C8.fnBody s__law_count) (C8.fnScope s__law_count) .none kV17 dc17 pm17 an17 cd17 ct17), sl17⟩) (c17 : PySem.W.codeIn K cd17 "_law_count" = true) (k17 : PySem.W.keepIn K (.ref f17) = true)
    (a18 : PySem.W.nsIn K mainGlobals "_law_made" = some (some (.ref f18))) (l18 : K.lookup f18 = some ⟨oc18, od18, .func (PySem.W.fnOf "_law_made" "_law_made" (C8.fnArgs s__law_made) (C8.fnBody s__law_made) (C8.fnScope s__law_made) .none kV18 dc18 pm18 an18 cd18 ct18), sl18⟩) (c18 : PySem.W.codeIn K cd18 "_law_made" = true) (k18 : PySem.W.keepIn K (.ref f18) = true)
    (a19 : PySem.W.nsIn K mainGlobals "law" = some (some (.ref f19))) (l19 : K.lookup f19 = some ⟨oc19, od19, .func (PySem.W.fnOf "law" "law" (C8.fnArgs s_law) (C8.fnBody s_law) (C8.fnScope s_law) .none kV19 dc19 pm19 an19 cd19 ct19), sl19⟩) (c19 : PySem.W.codeIn K cd19 "law" = true) (k19 : PySem.W.keepIn K (.ref f19) = true)
    (zz_len : PySem.W.nsIn K mainGlobals "len" = some none)
    (zz_abs : PySem.W.nsIn K mainGlobals "abs" = some none)
    (zz_int : PySem.W.nsIn K mainGlobals "int" = some none)
    (zz_list : PySem.W.nsIn K mainGlobals "list" = some none)
    (zz_range : PySem.W.nsIn K mainGlobals "range" = some none)
    (zz_isinstance : PySem.W.nsIn K mainGlobals "isinstance" = some none)
    (zz_bool : PySem.W.nsIn K mainGlobals "bool" = some none)
    (zz_sum : PySem.W.nsIn K mainGlobals "sum" = some none)
    (zz_enumerate : PySem.W.nsIn K mainGlobals "enumerate" = some none)
    (zz_all : PySem.W.nsIn K mainGlobals "all" = some none)
    (gg_STATES : PySem.W.nsIn K mainGlobals "STATES" = some (some (.int 400 t_STATES)))
    (gg_TRACKS : PySem.W.nsIn K mainGlobals "TRACKS" = some (some (.int 6 t_TRACKS)))
    (xa_Oversized : PySem.W.nsIn K mainGlobals "Oversized" = some (some (.ref COv))) (xc_Oversized : K.lookup COv = some (excClassObj nm_Oversized q_Oversized COv N_Oversized bs_Oversized bm_Oversized true sn_Oversized sub_Oversized ab_Oversized col_Oversized dd_Oversized m0_Oversized m1_Oversized m2_Oversized m3_Oversized m5_Oversized "ValueError.__new__")) (xr_Oversized : PySem.HandSPX.refsVE bm_Oversized = true) (xs_Oversized : PySem.W.findIn K (.ref COv) "__setattr__" = some (some (.builtin "object.__setattr__"))) (xg_Oversized : PySem.W.findIn K (.ref COv) "__getattribute__" = some (some (.builtin "BaseException.__getattribute__"))) (xh_Oversized : PySem.W.findIn K (.ref COv) "__getattr__" = some none) (xn_Oversized : PySem.W.findIn K (.ref COv) "limit" = some none) (xi_Oversized : PySem.W.findIn K (.ref COv) "__init__" = some (some (.ref fI_Oversized))) (xt_Oversized : PySem.W.typeIn K (.ref fI_Oversized) = some (.type "function")) (xl_Oversized : K.lookup fI_Oversized = some ⟨oci_Oversized, odi_Oversized, .func (PySem.W.fnOf "__init__" "Oversized.__init__" (C8.fnArgs si_Oversized) (C8.fnBody si_Oversized) (C8.fnScope si_Oversized) .none kVi_Oversized dci_Oversized pmi_Oversized ani_Oversized cdi_Oversized cti_Oversized), sli_Oversized⟩) (xq_Oversized : PySem.W.codeIn K cdi_Oversized "Oversized.__init__" = true) (xk_Oversized : PySem.W.keepIn K (.ref COv) = true) (xe_Oversized : PySem.W.subIn K (.ref COv) (.type "BaseException") = some true) (xy_Oversized : PySem.W.typeIn K (.ref COv) = some (.type "type")) (xd_Oversized : PySem.W.hasDictIn K COv = true) (xz_Oversized : PySem.W.isClsIn K COv = true)
    (ss_COvCOv : PySem.W.subIn K (.ref COv) (.ref COv) = some true)
    (hh_labelled : PySem.W.codeHdIn K cB PtL = true) (hTb_labelled : h.get? PtL = some { cls := .none, data := .fields #[] }) (nTb_labelled : K.lookup PtL = none) :
    LamX.LawAtS l w K C8.CX0 9 63 "script" mg fa h := by
  have e := hfa.symm.trans (PySem.W.mg_of X G a19)
  cases e
  have D0 : C8.Def K mg "is_state" s_is_state f0 _ := ⟨⟨_, _, _, _, _, _, _, _, _, _, rfl, l0, c0⟩, PySem.W.mg_of X G a0, k0⟩
  have b0 := C8.Fun.binds D0.fn rfl (ps := ["value", "size"]) fun _ _ _ _ _ _ us hl => match us, hl with | [_, _], _ => rfl
  have D1 : C8.Def K mg "is_table" s_is_table f1 _ := ⟨⟨_, _, _, _, _, _, _, _, _, _, rfl, l1, c1⟩, PySem.W.mg_of X G a1, k1⟩
  have b1 := C8.Fun.binds D1.fn rfl (ps := ["table", "length"]) fun _ _ _ _ _ _ us hl => match us, hl with | [_, _], _ => rfl
  have D2 : C8.Def K mg "letters" s_letters f2 _ := ⟨⟨_, _, _, _, _, _, _, _, _, _, rfl, l2, c2⟩, PySem.W.mg_of X G a2, k2⟩
  have b2 := C8.Fun.binds D2.fn rfl (ps := ["width"]) fun _ _ _ _ _ _ us hl => match us, hl with | [_], _ => rfl
  have D3 : C8.Def K mg "check_width" s_check_width f3 _ := ⟨⟨_, _, _, _, _, _, _, _, _, _, rfl, l3, c3⟩, PySem.W.mg_of X G a3, k3⟩
  have b3 := C8.Fun.binds D3.fn rfl (ps := ["width"]) fun _ _ _ _ _ _ us hl => match us, hl with | [_], _ => rfl
  have F4 : C8.Fun K "__init__" "Machine.__init__" s_Machine___init__ f4 _ := ⟨_, _, _, _, _, _, _, _, _, _, rfl, l4, c4⟩
  have b4 := C8.Fun.binds F4 rfl (ps := ["self", "width", "table", "accepting"]) fun _ _ _ _ _ _ us hl => match us, hl with | [_, _, _, _], _ => rfl
  have D5 : C8.Def K mg "digit" s_digit f5 _ := ⟨⟨_, _, _, _, _, _, _, _, _, _, rfl, l5, c5⟩, PySem.W.mg_of X G a5, k5⟩
  have b5 := C8.Fun.binds D5.fn rfl (ps := ["letter", "track"]) fun _ _ _ _ _ _ us hl => match us, hl with | [_, _], _ => rfl
  have D6 : C8.Def K mg "_law_wide" s__law_wide f6 _ := ⟨⟨_, _, _, _, _, _, _, _, _, _, rfl, l6, c6⟩, PySem.W.mg_of X G a6, k6⟩
  have b6 := C8.Fun.binds D6.fn rfl (ps := ["script", "k"]) fun _ _ _ _ _ _ us hl => match us, hl with | [_, _], _ => rfl
  have D7 : C8.Def K mg "_law_take" s__law_take f7 _ := ⟨⟨_, _, _, _, _, _, _, _, _, _, rfl, l7, c7⟩, PySem.W.mg_of X G a7, k7⟩
  have b7 := C8.Fun.binds D7.fn rfl (ps := ["pool", "most"]) fun _ _ _ _ _ _ us hl => match us, hl with | [_, _], _ => rfl
  have D8 : C8.Def K mg "_law_pool" s__law_pool f8 _ := ⟨⟨_, _, _, _, _, _, _, _, _, _, rfl, l8, c8⟩, PySem.W.mg_of X G a8, k8⟩
  have b8 := C8.Fun.binds D8.fn rfl (ps := ["script"]) fun _ _ _ _ _ _ us hl => match us, hl with | [_], _ => rfl
  have D9 : C8.Def K mg "label_behind" s_label_behind f9 _ := ⟨⟨_, _, _, _, _, _, _, _, _, _, rfl, l9, c9⟩, PySem.W.mg_of X G a9, k9⟩
  have b9 := C8.Fun.binds D9.fn rfl (ps := ["kind", "label", "weight"]) fun _ _ _ _ _ _ us hl => match us, hl with | [_, _, _], _ => rfl
  have D10 : C8.Def K mg "is_accepting" s_is_accepting f10 _ := ⟨⟨_, _, _, _, _, _, _, _, _, _, rfl, l10, c10⟩, PySem.W.mg_of X G a10, k10⟩
  have b10 := C8.Fun.binds D10.fn rfl (ps := ["kind", "label"]) fun _ _ _ _ _ _ us hl => match us, hl with | [_, _], _ => rfl
  have D11 : C8.Def K mg "weights" s_weights f11 _ := ⟨⟨_, _, _, _, _, _, _, _, _, _, rfl, l11, c11⟩, PySem.W.mg_of X G a11, k11⟩
  have b11 := C8.Fun.binds D11.fn rfl (ps := ["coefficients"]) fun _ _ _ _ _ _ us hl => match us, hl with | [_], _ => rfl
  have D12 : C8.Def K mg "reached" s_reached f12 _ := ⟨⟨_, _, _, _, _, _, _, _, _, _, rfl, l12, c12⟩, PySem.W.mg_of X G a12, k12⟩
  have b12 := C8.Fun.binds D12.fn rfl (ps := ["start", "width", "follow"]) fun _ _ _ _ _ _ us hl => match us, hl with | [_, _, _], _ => rfl
  have D13 : C8.Def K mg "labelled" s_labelled f13 _ := ⟨⟨_, _, _, _, _, _, _, _, _, _, rfl, l13, c13⟩, PySem.W.mg_of X G a13, k13⟩
  have b13 := C8.Fun.binds D13.fn rfl (ps := ["kind", "coefficients", "constant"]) fun _ _ _ _ _ _ us hl => match us, hl with | [_, _, _], _ => rfl
  have D14 : C8.Def K mg "equation" s_equation f14 _ := ⟨⟨_, _, _, _, _, _, _, _, _, _, rfl, l14, c14⟩, PySem.W.mg_of X G a14, k14⟩
  have b14 := C8.Fun.binds D14.fn rfl (ps := ["coefficients", "constant"]) fun _ _ _ _ _ _ us hl => match us, hl with | [_, _], _ => rfl
  have D15 : C8.Def K mg "at_most" s_at_most f15 _ := ⟨⟨_, _, _, _, _, _, _, _, _, _, rfl, l15, c15⟩, PySem.W.mg_of X G a15, k15⟩
  have b15 := C8.Fun.binds D15.fn rfl (ps := ["coefficients", "constant"]) fun _ _ _ _ _ _ us hl => match us, hl with | [_, _], _ => rfl
  have D16 : C8.Def K mg "_law_sums" s__law_sums f16 _ := ⟨⟨_, _, _, _, _, _, _, _, _, _, rfl, l16, c16⟩, PySem.W.mg_of X G a16, k16⟩
  have b16 := C8.Fun.binds D16.fn rfl (ps := ["coefficients"]) fun _ _ _ _ _ _ us hl => match us, hl with | [_], _ => rfl
  have D17 : C8.Def K mg "_law_count" s__law_count f17 _ := ⟨⟨_, _, _, _, _, _, _, _, _, _, rfl, l17, c17⟩, PySem.W.mg_of X G a17, k17⟩
  have b17 := C8.Fun.binds D17.fn rfl (ps := ["coefficients", "constant", "exact"]) fun _ _ _ _ _ _ us hl => match us, hl with | [_, _, _], _ => rfl
  have D18 : C8.Def K mg "_law_made" s__law_made f18 _ := ⟨⟨_, _, _, _, _, _, _, _, _, _, rfl, l18, c18⟩, PySem.W.mg_of X G a18, k18⟩
  have b18 := C8.Fun.binds D18.fn rfl (ps := ["coefficients", "constant", "exact"]) fun _ _ _ _ _ _ us hl => match us, hl with | [_, _, _], _ => rfl
  have D19 : C8.Def K mg "law" s_law fa _ := ⟨⟨_, _, _, _, _, _, _, _, _, _, rfl, l19, c19⟩, PySem.W.mg_of X G a19, k19⟩
  have c_CM : Cls K CM := ⟨pg_Machine, hd_Machine, po_Machine, sa_Machine⟩
  have nCM_width : NoAttr K CM "width" := no0_Machine
  have nCM_table : NoAttr K CM "table" := no1_Machine
  have nCM_accepting : NoAttr K CM "accepting" := no2_Machine
  have z_len := PySem.W.mg_none_of X G zz_len
  have z_abs := PySem.W.mg_none_of X G zz_abs
  have z_int := PySem.W.mg_none_of X G zz_int
  have z_list := PySem.W.mg_none_of X G zz_list
  have z_range := PySem.W.mg_none_of X G zz_range
  have z_isinstance := PySem.W.mg_none_of X G zz_isinstance
  have z_bool := PySem.W.mg_none_of X G zz_bool
  have z_sum := PySem.W.mg_none_of X G zz_sum
  have z_enumerate := PySem.W.mg_none_of X G zz_enumerate
  have z_all := PySem.W.mg_none_of X G zz_all
  have g_STATES : ∃ u, mg "STATES" = some u ∧ RelV (.int 400) u := ⟨_, PySem.W.mg_of X G gg_STATES, _, rfl⟩
  have g_TRACKS : ∃ u, mg "TRACKS" = some u ∧ RelV (.int 6) u := ⟨_, PySem.W.mg_of X G gg_TRACKS, _, rfl⟩
  have T_Oversized : OexC K COv := ⟨⟨_, _, _, _, _, _, _, _, _, _, _, _, _, _, _, xc_Oversized, xr_Oversized⟩, xs_Oversized, xe_Oversized, xy_Oversized, xk_Oversized⟩
  have F_Oversized : C8.Fun K "__init__" "Oversized.__init__" si_Oversized fI_Oversized _ := ⟨_, _, _, _, _, _, _, _, _, _, rfl, xl_Oversized, xq_Oversized⟩
  have bb_Oversized := C8.Fun.binds F_Oversized rfl (ps := ["self", "limit"]) fun _ _ _ _ _ _ us hl => match us, hl with | [_, _], _ => rfl
  have ex_COvCOv := exm_of xe_Oversized xz_Oversized xy_Oversized ss_COvCOv
  refine ⟨PySem.W.fnOf "law" "law" (C8.fnArgs s_law) (C8.fnBody s_law) (C8.fnScope s_law) .none kV19 dc19 pm19 an19 cd19 ct19, [(cB, PtL)], spLaw K [(PtL, nmL)], (by intro p hp; simp only [List.mem_cons, List.not_mem_nil, or_false] at hp; rcases hp with rfl <;> first | exact hTb_labelled), (by intro p hp; simp only [List.mem_cons, List.not_mem_nil, or_false] at hp; rcases hp with rfl <;> first | exact nTb_labelled), (by intro p hp; simp only [List.mem_cons, List.not_mem_nil, or_false] at hp; rcases hp with rfl <;> first | exact PySem.W.codeHd_of_K X hh_labelled), fun s v => .of_eq rfl, fun H a ns hl _ hT hS => ⟨a, ns, rfl, hS, hl, (fun p hp => by simp only [List.mem_cons, List.not_mem_nil, or_false] at hp; rcases hp with rfl <;> first | exact NdefX.TabN.nil (hT _ List.mem_cons_self)), fun _ => rfl⟩, fun base _ _ hTB => ?_⟩
  have TB_labelled : LamX.TabB base mg cB PtL := hTB _ List.mem_cons_self
  have x_Oversized : ExF l.prog w K mg base "Oversized" COv "limit" := ⟨T_Oversized, PySem.W.mg_of X G xa_Oversized, ⟨xg_Oversized, xh_Oversized, xe_Oversized, xd_Oversized⟩, xn_Oversized, _, _, xi_Oversized, xt_Oversized, f_ini_Oversized T_Oversized xn_Oversized F_Oversized, bb_Oversized⟩
  have hmem_labelled : (PtL, nmL) ∈ [(PtL, nmL)] := List.mem_cons_self
  have huni_labelled : ∀ p ∈ [(PtL, nmL)], p.1 = PtL → p.2 = nmL := fun p hp _ => by rw [List.mem_singleton.mp hp]
  have c_is_state := c_is_state (P := l.prog) (w := w) (base := base) D0 b0 z_isinstance z_int z_bool
  have c_is_table := c_is_table (P := l.prog) (w := w) (base := base) D1 b1 c_is_state z_len z_all
  have c_letters := c_letters (P := l.prog) (w := w) (base := base) D2 b2 
  have c_check_width := c_check_width (P := l.prog) (w := w) (base := base) D3 b3 g_TRACKS
  have k_Machine := k_Machine (P := l.prog) (w := w) (base := base) (mg := mg) ⟨mk_Machine, a4, i4, kc_Machine⟩ (PySem.W.mg_of X G aC_Machine) c_CM F4 b4 nCM_width nCM_table nCM_accepting c_check_width c_is_table c_letters z_len z_enumerate z_list g_STATES
  have c_digit := c_digit (P := l.prog) (w := w) (base := base) D5 b5 
  have c__law_wide := c__law_wide (P := l.prog) (w := w) (base := base) D6 b6 z_len z_abs z_int
  have c__law_take := c__law_take (P := l.prog) (w := w) (base := base) D7 b7 z_int c__law_wide
  have c__law_pool := c__law_pool (P := l.prog) (w := w) (base := base) D8 b8 z_list
  have c_label_behind := c_label_behind (P := l.prog) (w := w) (base := base) D9 b9 
  have c_is_accepting := c_is_accepting (P := l.prog) (w := w) (base := base) D10 b10 
  have c_weights := c_weights (P := l.prog) (w := w) (base := base) D11 b11 c_digit c_letters z_len z_range z_sum z_enumerate
  have cL_reached : ∀ (cl : List (Str × Addr)) (ws : List (Option V)) (ex : Bool) (cs : List Int) (q : Str), CalG l.prog w K mg base 3 "reached" (CbG cl ["kind", "sums"] ws) (sp_reachedN COv (NdefX.NF.of s_labelled_follow "follow" q cl) (gN ex (wts cs)) (sp_followN ex ws)) := fun cl ws ex cs q => cN_reached (P := l.prog) (w := w) (base := base) (mk := NdefX.NF.of s_labelled_follow "follow" q cl) (cl := cl) (ws := ws) (gF := gN ex (wts cs)) (spF := sp_followN ex) D12 b12 (fun _ => rfl) (fun f c => n_labelled_follow c_label_behind f) x_Oversized c_letters g_STATES z_len z_range
  have c_labelled := c_labelled (P := l.prog) (w := w) (base := base) l13 c13 (PySem.W.mg_of X G a13) k13 b13 TB_labelled hmem_labelled huni_labelled c_CM nCM_width nCM_table nCM_accepting c_check_width c_weights c_is_accepting z_len k_Machine cL_reached
  have c_equation := c_equation (P := l.prog) (w := w) (base := base) D14 b14 c_labelled
  have c_at_most := c_at_most (P := l.prog) (w := w) (base := base) D15 b15 c_labelled
  have c__law_sums := c__law_sums (P := l.prog) (w := w) (base := base) D16 b16 
  have c__law_count := c__law_count (P := l.prog) (w := w) (base := base) D17 b17 c__law_sums z_range z_len z_int
  have c__law_made := c__law_made (P := l.prog) (w := w) (base := base) D18 b18 x_Oversized ex_COvCOv c_CM nCM_width nCM_table nCM_accepting c_equation c_at_most z_len z_list
  exact f_law D19 c__law_take c__law_pool c__law_count c__law_made z_range z_abs
end K41
open PySem PySem.W PyProof.Rows
set_option maxRecDepth 100000 in
set_option maxHeartbeats 0 in
theorem PySem.Challenge.cw_digitwise_k41_linear_limits_holds : PySem.Challenge.rw_digitwise_k41_linear_limits.Holds := by
  w_on; o_law; k_head; (case hw => w_witness2)
  k_fill
  refine LamX.walk_ofTs (l := PySem.Challenge.rw_digitwise_k41_linear_limits) (n := 63) (k := 9) (x := "script") (CX := fun _ => C8.CX0) rfl (by decide) rfl ⟨rfl, by decide, by decide⟩ (fun w h Y => PySem.W.km_in_of Y) ?F (fun _ _ _ _ _ h => h)
  case F =>
    intro w mg fa h Y KX G hmg
    refine' K41.all_mk KX G hmg ?aC_Machine ?pg_Machine ?hd_Machine ?po_Machine ?sa_Machine ?mk_Machine ?kc_Machine ?no0_Machine ?no1_Machine ?no2_Machine ?a0 ?l0 ?c0 ?k0 ?a1 ?l1 ?c1 ?k1 ?a2 ?l2 ?c2 ?k2 ?a3 ?l3 ?c3 ?k3 ?a4 ?i4 ?l4 ?c4 ?k4 ?a5 ?l5 ?c5 ?k5 ?a6 ?l6 ?c6 ?k6 ?a7 ?l7 ?c7 ?k7 ?a8 ?l8 ?c8 ?k8 ?a9 ?l9 ?c9 ?k9 ?a10 ?l10 ?c10 ?k10 ?a11 ?l11 ?c11 ?k11 ?a12 ?l12 ?c12 ?k12 ?a13 ?l13 ?c13 ?k13 ?a14 ?l14 ?c14 ?k14 ?a15 ?l15 ?c15 ?k15 ?a16 ?l16 ?c16 ?k16 ?a17 ?l17 ?c17 ?k17 ?a18 ?l18 ?c18 ?k18 ?a19 ?l19 ?c19 ?k19 ?zz_len ?zz_abs ?zz_int ?zz_list ?zz_range ?zz_isinstance ?zz_bool ?zz_sum ?zz_enumerate ?zz_all ?gg_STATES ?gg_TRACKS ?xa_Oversized ?xc_Oversized ?xr_Oversized ?xs_Oversized ?xg_Oversized ?xh_Oversized ?xn_Oversized ?xi_Oversized ?xt_Oversized ?xl_Oversized ?xq_Oversized ?xk_Oversized ?xe_Oversized ?xy_Oversized ?xd_Oversized ?xz_Oversized ?ss_COvCOv ?hh_labelled ?hTb_labelled ?nTb_labelled
    (case aC_Machine => k_is)
    (case pg_Machine => k_is)
    (case hd_Machine => k_is)
    (case po_Machine => k_is)
    (case sa_Machine => k_is)
    (case mk_Machine => k_is)
    (case kc_Machine => k_is)
    (case no0_Machine => k_is)
    (case no1_Machine => k_is)
    (case no2_Machine => k_is)
    (case a0 => k_is)
    (case l0 => k_is)
    (case c0 => k_is)
    (case k0 => k_is)
    (case a1 => k_is)
    (case l1 => k_is)
    (case c1 => k_is)
    (case k1 => k_is)
    (case a2 => k_is)
    (case l2 => k_is)
    (case c2 => k_is)
    (case k2 => k_is)
    (case a3 => k_is)
    (case l3 => k_is)
    (case c3 => k_is)
    (case k3 => k_is)
    (case a4 => k_is)
    (case i4 => k_is)
    (case l4 => k_is)
    (case c4 => k_is)
    (case k4 => k_is)
    (case a5 => k_is)
    (case l5 => k_is)
    (case c5 => k_is)
    (case k5 => k_is)
    (case a6 => k_is)
    (case l6 => k_is)
    (case c6 => k_is)
    (case k6 => k_is)
    (case a7 => k_is)
    (case l7 => k_is)
    (case c7 => k_is)
    (case k7 => k_is)
    (case a8 => k_is)
    (case l8 => k_is)
    (case c8 => k_is)
    (case k8 => k_is)
    (case a9 => k_is)
    (case l9 => k_is)
    (case c9 => k_is)
    (case k9 => k_is)
    (case a10 => k_is)
    (case l10 => k_is)
    (case c10 => k_is)
    (case k10 => k_is)
    (case a11 => k_is)
    (case l11 => k_is)
    (case c11 => k_is)
    (case k11 => k_is)
    (case a12 => k_is)
    (case l12 => k_is)
    (case c12 => k_is)
    (case k12 => k_is)
    (case a13 => k_is)
    (case l13 => k_is)
    (case c13 => k_is)
    (case k13 => k_is)
    (case a14 => k_is)
    (case l14 => k_is)
    (case c14 => k_is)
    (case k14 => k_is)
    (case a15 => k_is)
    (case l15 => k_is)
    (case c15 => k_is)
    (case k15 => k_is)
    (case a16 => k_is)
    (case l16 => k_is)
    (case c16 => k_is)
    (case k16 => k_is)
    (case a17 => k_is)
    (case l17 => k_is)
    (case c17 => k_is)
    (case k17 => k_is)
    (case a18 => k_is)
    (case l18 => k_is)
    (case c18 => k_is)
    (case k18 => k_is)
    (case a19 => k_is)
    (case l19 => k_is)
    (case c19 => k_is)
    (case k19 => k_is)
    (case zz_len => k_is)
    (case zz_abs => k_is)
    (case zz_int => k_is)
    (case zz_list => k_is)
    (case zz_range => k_is)
    (case zz_isinstance => k_is)
    (case zz_bool => k_is)
    (case zz_sum => k_is)
    (case zz_enumerate => k_is)
    (case zz_all => k_is)
    (case gg_STATES => k_is)
    (case gg_TRACKS => k_is)
    (case xa_Oversized => k_is)
    (case xc_Oversized => k_is)
    (case xr_Oversized => decide +kernel)
    (case xs_Oversized => k_is)
    (case xg_Oversized => k_is)
    (case xh_Oversized => k_is)
    (case xn_Oversized => k_is)
    (case xi_Oversized => k_is)
    (case xt_Oversized => k_is)
    (case xl_Oversized => k_is)
    (case xq_Oversized => k_is)
    (case xk_Oversized => k_is)
    (case xe_Oversized => k_is)
    (case xy_Oversized => k_is)
    (case xd_Oversized => k_is)
    (case xz_Oversized => k_is)
    (case ss_COvCOv => first | rfl | k_is)
    (case hTb_labelled => exact PySem.W.km_tabs_of Y _ List.mem_cons_self)
    (case hh_labelled => first | rfl | kernel_rfl)
    (case nTb_labelled => first | rfl | kernel_rfl)
