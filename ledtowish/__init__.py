"""Ledtowish: told numbers led to a wished one."""
