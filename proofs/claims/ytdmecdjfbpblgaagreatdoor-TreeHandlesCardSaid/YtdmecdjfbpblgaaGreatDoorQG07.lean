/-
  op.through, at the two closures that hand on what they are told.
-/
import Derived.Test.YtdmecdjfbpblgaaGreatDoorQG06
namespace Go.Proofs.YtdmecdjfbpblgaaGreatDoor.Ops
set_option maxRecDepth 100000
set_option maxHeartbeats 32000000
open Go.ChangeShapes Go.WideShapes Go.ChangeAt Go.RowKit
set_option linter.unusedVariables false
set_option linter.unusedSimpArgs false
theorem thrS1 (w:World) (hK:KT w) (i t a:Int) (n x:ByteArray):Calls Tryz.prog 102 #[opv ⟨1,i,t,a,n,x⟩,.func (.func 103) #[] #[],.func (.func 104) #[] #[]] w (GivesV (opv ⟨1,0,0,0,n,⟨#[]⟩⟩) w):=by
 have hg:=hK.1;obtain ⟨t0,t1,t2,t3,t4,t5⟩:=hK.2 1 (by decide) (by decide);simp only [Nat.reduceMul,Nat.reduceAdd] at t0 t1 t2 t3 t4 t5;rw [show hasI (1:Nat)=false from rfl] at t1;rw [show hasT (1:Nat)=false from rfl] at t2 t3;rw [show hasN (1:Nat)=true from rfl] at t4;rw [show hasX (1:Nat)=false from rfl] at t5;generalize kword (1:Nat)=wd at *;clear hK;unfold opv;go_enter Tryz.func102,Tryz.ntmps102
 go_wp2_with (first|(go_at_call 103;refine (id1 _ _).mono ?_;rintro e V ⟨rfl,rfl⟩)|(go_at_call 104;refine (id2 _ _).mono ?_;rintro e V ⟨rfl,rfl⟩))
 refine bodyPost_ret (v:=opv ⟨1,0,0,0,n,⟨#[]⟩⟩) (by simp [results,Tryz.results102,go_sem,opv]) rfl ⟨rfl,?_⟩
 repeat' first|exact Below.refl _ _|refine Below.alloc ?_ ?_ _|(simp;done)|(simp;omega)
theorem thrS2 (w:World) (hK:KT w) (i t a:Int) (n x:ByteArray):Calls Tryz.prog 102 #[opv ⟨2,i,t,a,n,x⟩,.func (.func 103) #[] #[],.func (.func 104) #[] #[]] w (GivesV (opv ⟨2,0,0,0,⟨#[]⟩,x⟩) w):=by
 have hg:=hK.1;obtain ⟨t0,t1,t2,t3,t4,t5⟩:=hK.2 2 (by decide) (by decide);simp only [Nat.reduceMul,Nat.reduceAdd] at t0 t1 t2 t3 t4 t5;rw [show hasI (2:Nat)=false from rfl] at t1;rw [show hasT (2:Nat)=false from rfl] at t2 t3;rw [show hasN (2:Nat)=false from rfl] at t4;rw [show hasX (2:Nat)=true from rfl] at t5;generalize kword (2:Nat)=wd at *;clear hK;unfold opv;go_enter Tryz.func102,Tryz.ntmps102
 go_wp2_with (first|(go_at_call 103;refine (id1 _ _).mono ?_;rintro e V ⟨rfl,rfl⟩)|(go_at_call 104;refine (id2 _ _).mono ?_;rintro e V ⟨rfl,rfl⟩))
 refine bodyPost_ret (v:=opv ⟨2,0,0,0,⟨#[]⟩,x⟩) (by simp [results,Tryz.results102,go_sem,opv]) rfl ⟨rfl,?_⟩
 repeat' first|exact Below.refl _ _|refine Below.alloc ?_ ?_ _|(simp;done)|(simp;omega)
theorem thrS3 (w:World) (hK:KT w) (i t a:Int) (n x:ByteArray):Calls Tryz.prog 102 #[opv ⟨3,i,t,a,n,x⟩,.func (.func 103) #[] #[],.func (.func 104) #[] #[]] w (GivesV (opv ⟨3,0,0,0,⟨#[]⟩,x⟩) w):=by
 have hg:=hK.1;obtain ⟨t0,t1,t2,t3,t4,t5⟩:=hK.2 3 (by decide) (by decide);simp only [Nat.reduceMul,Nat.reduceAdd] at t0 t1 t2 t3 t4 t5;rw [show hasI (3:Nat)=false from rfl] at t1;rw [show hasT (3:Nat)=false from rfl] at t2 t3;rw [show hasN (3:Nat)=false from rfl] at t4;rw [show hasX (3:Nat)=true from rfl] at t5;generalize kword (3:Nat)=wd at *;clear hK;unfold opv;go_enter Tryz.func102,Tryz.ntmps102
 go_wp2_with (first|(go_at_call 103;refine (id1 _ _).mono ?_;rintro e V ⟨rfl,rfl⟩)|(go_at_call 104;refine (id2 _ _).mono ?_;rintro e V ⟨rfl,rfl⟩))
 refine bodyPost_ret (v:=opv ⟨3,0,0,0,⟨#[]⟩,x⟩) (by simp [results,Tryz.results102,go_sem,opv]) rfl ⟨rfl,?_⟩
 repeat' first|exact Below.refl _ _|refine Below.alloc ?_ ?_ _|(simp;done)|(simp;omega)
theorem thrS4 (w:World) (hK:KT w) (i t a:Int) (n x:ByteArray):Calls Tryz.prog 102 #[opv ⟨4,i,t,a,n,x⟩,.func (.func 103) #[] #[],.func (.func 104) #[] #[]] w (GivesV (opv ⟨4,i,t,a,⟨#[]⟩,⟨#[]⟩⟩) w):=by
 have hg:=hK.1;obtain ⟨t0,t1,t2,t3,t4,t5⟩:=hK.2 4 (by decide) (by decide);simp only [Nat.reduceMul,Nat.reduceAdd] at t0 t1 t2 t3 t4 t5;rw [show hasI (4:Nat)=true from rfl] at t1;rw [show hasT (4:Nat)=true from rfl] at t2 t3;rw [show hasN (4:Nat)=false from rfl] at t4;rw [show hasX (4:Nat)=false from rfl] at t5;generalize kword (4:Nat)=wd at *;clear hK;unfold opv;go_enter Tryz.func102,Tryz.ntmps102
 go_wp2_with (first|(go_at_call 103;refine (id1 _ _).mono ?_;rintro e V ⟨rfl,rfl⟩)|(go_at_call 104;refine (id2 _ _).mono ?_;rintro e V ⟨rfl,rfl⟩))
 refine bodyPost_ret (v:=opv ⟨4,i,t,a,⟨#[]⟩,⟨#[]⟩⟩) (by simp [results,Tryz.results102,go_sem,opv]) rfl ⟨rfl,?_⟩
 repeat' first|exact Below.refl _ _|refine Below.alloc ?_ ?_ _|(simp;done)|(simp;omega)
theorem thrS5 (w:World) (hK:KT w) (i t a:Int) (n x:ByteArray):Calls Tryz.prog 102 #[opv ⟨5,i,t,a,n,x⟩,.func (.func 103) #[] #[],.func (.func 104) #[] #[]] w (GivesV (opv ⟨5,i,0,0,⟨#[]⟩,⟨#[]⟩⟩) w):=by
 have hg:=hK.1;obtain ⟨t0,t1,t2,t3,t4,t5⟩:=hK.2 5 (by decide) (by decide);simp only [Nat.reduceMul,Nat.reduceAdd] at t0 t1 t2 t3 t4 t5;rw [show hasI (5:Nat)=true from rfl] at t1;rw [show hasT (5:Nat)=false from rfl] at t2 t3;rw [show hasN (5:Nat)=false from rfl] at t4;rw [show hasX (5:Nat)=false from rfl] at t5;generalize kword (5:Nat)=wd at *;clear hK;unfold opv;go_enter Tryz.func102,Tryz.ntmps102
 go_wp2_with (first|(go_at_call 103;refine (id1 _ _).mono ?_;rintro e V ⟨rfl,rfl⟩)|(go_at_call 104;refine (id2 _ _).mono ?_;rintro e V ⟨rfl,rfl⟩))
 refine bodyPost_ret (v:=opv ⟨5,i,0,0,⟨#[]⟩,⟨#[]⟩⟩) (by simp [results,Tryz.results102,go_sem,opv]) rfl ⟨rfl,?_⟩
 repeat' first|exact Below.refl _ _|refine Below.alloc ?_ ?_ _|(simp;done)|(simp;omega)
theorem thrS6 (w:World) (hK:KT w) (i t a:Int) (n x:ByteArray):Calls Tryz.prog 102 #[opv ⟨6,i,t,a,n,x⟩,.func (.func 103) #[] #[],.func (.func 104) #[] #[]] w (GivesV (opv ⟨6,i,0,0,n,x⟩) w):=by
 have hg:=hK.1;obtain ⟨t0,t1,t2,t3,t4,t5⟩:=hK.2 6 (by decide) (by decide);simp only [Nat.reduceMul,Nat.reduceAdd] at t0 t1 t2 t3 t4 t5;rw [show hasI (6:Nat)=true from rfl] at t1;rw [show hasT (6:Nat)=false from rfl] at t2 t3;rw [show hasN (6:Nat)=true from rfl] at t4;rw [show hasX (6:Nat)=true from rfl] at t5;generalize kword (6:Nat)=wd at *;clear hK;unfold opv;go_enter Tryz.func102,Tryz.ntmps102
 go_wp2_with (first|(go_at_call 103;refine (id1 _ _).mono ?_;rintro e V ⟨rfl,rfl⟩)|(go_at_call 104;refine (id2 _ _).mono ?_;rintro e V ⟨rfl,rfl⟩))
 refine bodyPost_ret (v:=opv ⟨6,i,0,0,n,x⟩) (by simp [results,Tryz.results102,go_sem,opv]) rfl ⟨rfl,?_⟩
 repeat' first|exact Below.refl _ _|refine Below.alloc ?_ ?_ _|(simp;done)|(simp;omega)
theorem thrS7 (w:World) (hK:KT w) (i t a:Int) (n x:ByteArray):Calls Tryz.prog 102 #[opv ⟨7,i,t,a,n,x⟩,.func (.func 103) #[] #[],.func (.func 104) #[] #[]] w (GivesV (opv ⟨7,i,0,0,n,⟨#[]⟩⟩) w):=by
 have hg:=hK.1;obtain ⟨t0,t1,t2,t3,t4,t5⟩:=hK.2 7 (by decide) (by decide);simp only [Nat.reduceMul,Nat.reduceAdd] at t0 t1 t2 t3 t4 t5;rw [show hasI (7:Nat)=true from rfl] at t1;rw [show hasT (7:Nat)=false from rfl] at t2 t3;rw [show hasN (7:Nat)=true from rfl] at t4;rw [show hasX (7:Nat)=false from rfl] at t5;generalize kword (7:Nat)=wd at *;clear hK;unfold opv;go_enter Tryz.func102,Tryz.ntmps102
 go_wp2_with (first|(go_at_call 103;refine (id1 _ _).mono ?_;rintro e V ⟨rfl,rfl⟩)|(go_at_call 104;refine (id2 _ _).mono ?_;rintro e V ⟨rfl,rfl⟩))
 refine bodyPost_ret (v:=opv ⟨7,i,0,0,n,⟨#[]⟩⟩) (by simp [results,Tryz.results102,go_sem,opv]) rfl ⟨rfl,?_⟩
 repeat' first|exact Below.refl _ _|refine Below.alloc ?_ ?_ _|(simp;done)|(simp;omega)
theorem thrS8 (w:World) (hK:KT w) (i t a:Int) (n x:ByteArray):Calls Tryz.prog 102 #[opv ⟨8,i,t,a,n,x⟩,.func (.func 103) #[] #[],.func (.func 104) #[] #[]] w (GivesV (opv ⟨8,i,0,0,⟨#[]⟩,x⟩) w):=by
 have hg:=hK.1;obtain ⟨t0,t1,t2,t3,t4,t5⟩:=hK.2 8 (by decide) (by decide);simp only [Nat.reduceMul,Nat.reduceAdd] at t0 t1 t2 t3 t4 t5;rw [show hasI (8:Nat)=true from rfl] at t1;rw [show hasT (8:Nat)=false from rfl] at t2 t3;rw [show hasN (8:Nat)=false from rfl] at t4;rw [show hasX (8:Nat)=true from rfl] at t5;generalize kword (8:Nat)=wd at *;clear hK;unfold opv;go_enter Tryz.func102,Tryz.ntmps102
 go_wp2_with (first|(go_at_call 103;refine (id1 _ _).mono ?_;rintro e V ⟨rfl,rfl⟩)|(go_at_call 104;refine (id2 _ _).mono ?_;rintro e V ⟨rfl,rfl⟩))
 refine bodyPost_ret (v:=opv ⟨8,i,0,0,⟨#[]⟩,x⟩) (by simp [results,Tryz.results102,go_sem,opv]) rfl ⟨rfl,?_⟩
 repeat' first|exact Below.refl _ _|refine Below.alloc ?_ ?_ _|(simp;done)|(simp;omega)
theorem zuy (o:Po) (w:World) (hk:isK o.kind=true) (hK:KT w):Calls Tryz.prog 102 #[opv o,.func (.func 103) #[] #[],.func (.func 104) #[] #[]] w (GivesV (opv (kept o)) w):=by
 obtain ⟨k,i,t,a,n,x⟩:=o;have:k=1\/k=2\/k=3\/k=4\/k=5\/k=6\/k=7\/k=8:=by
  have:=zir.1 hk;simp only [] at this;omega
 rcases this with rfl|rfl|rfl|rfl|rfl|rfl|rfl|rfl
 · exact thrS1 w hK i t a n x
 · exact thrS2 w hK i t a n x
 · exact thrS3 w hK i t a n x
 · exact thrS4 w hK i t a n x
 · exact thrS5 w hK i t a n x
 · exact thrS6 w hK i t a n x
 · exact thrS7 w hK i t a n x
 · exact thrS8 w hK i t a n x
end Go.Proofs.YtdmecdjfbpblgaaGreatDoor.Ops
