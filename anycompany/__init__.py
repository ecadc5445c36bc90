"""Anycompany: which game of chance to play next, in any company of games, in exact fractions."""
