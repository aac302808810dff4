"""Latticeworks: whole steps in many directions, their forms, nearest points and plans, with papers."""
