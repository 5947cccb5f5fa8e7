"""Buildhall: a hall of builders."""
