"""Daysgate: stays in several lands under rules of days."""
