"""Pastways: changes to a text, behind and past one another."""
