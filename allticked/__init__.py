"""Allticked: what becomes of all selected when the list changes."""
