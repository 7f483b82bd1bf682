"""Agegrade: sets of men that pass through grades by feasts, whatever the age of whom they hold."""
